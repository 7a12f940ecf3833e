import PyProof.Rows.All
import Wide.All
import OpenK.AllK
import Wide.FinOn
import HandS.ForMost
import HandS.StrMore
import HandS.Wide
import HandS.IsInst
import HandS.Codes
import HandS.Conv
import HandS.Style
import HandS.Ends
import KE.GoesNew
import HandS.ForDict
import HandS.TupAny
import HandS.TupMul
import PyProof.NeKinds
import HandS.Words
import KE.GoesZip
import HandS.Zip
import HandS.Walk
import HandS.Dict
import PyProof.Rows.RegReprOcc
import PyProof.Rows.StrStrike
import PyProof.FitsInt
import PyProof.ReprLen
import PyProof.Rows.IntBool
import PyProof.CallStr
import HandS.TupLen
import HandS.More
import PySem.Challenge.RW_leastmakers_k67_rules_judged
set_option Elab.async false
set_option linter.all false
set_option maxRecDepth 100000
set_option maxHeartbeats 8000000
/-! repr of whole data, and promises of defs that call it -/
namespace G1
open PySem PySem.Spec PyProof.Rows L2

/-- a promise of a def where no repr is under way around the call -/
structure FnG (P : Program) (w : World) (K : PySem.W.Frag) (mg : Str → Option Value) (base : Heap) (k : Nat) (f : Addr) (fd : FuncData) (ps : List Str) (sp : Sp) : Prop where
  cnt : ∀ vs H Q E, sp vs H Q E → vs.length = ps.length
  go : ∀ (A : Around) (ou : List Env) (s : Shared) (H : Hp) (ar : Args) (us : List Value) (vs : List V) (Q : VK) (E : XK), A.guards = some [] → Room k A →
    Env0 P w K mg base A ou s H → BindsTo s fd ar (ps.zip us) → Vals vs us → sp vs H Q E →
    codeAny (model P w) A (.call (.ref f) ar) (CR CX0 ou P w H s Q E) s

theorem FnG.of {P : Program} {w : World} {K : PySem.W.Frag} {mg : Str → Option Value} {base : Heap} {k : Nat} {f : Addr} {fd : FuncData} {ps : List Str} {sp : Sp}
    (F : FnOk P w K mg base CX0 k f fd ps sp) : FnG P w K mg base k f fd ps sp :=
  ⟨F.len, fun A ou s H ar us vs Q E _ hr he hb hv hs => F.run A ou s H ar us vs Q E hr he hb hv hs⟩

section
variable {P : Program} {w : World} {K : PySem.W.Frag} {mg : Str → Option Value} {base : Heap}
theorem fnG_of {x qual : Str} {st : Stmt} {f : Addr} {fd : FuncData} {N ps : List Str} {k : Nat} {sp : Sp} (F : Fun K x qual st f fd) (S : FnScope N ps (defScope st))
    (cnt : ∀ vs H Q E, sp vs H Q E → vs.length = ps.length)
    (body : ∀ (cdv : Value) (A : Around) (ou : List Env) (s : Shared) (H : Hp) (vs : List V) (Q : VK) (E : XK), A.guards = some [] →
      Room k (A.deeper (envOfC qual (defScope st) s.heap.objs.size f cdv)) → sp vs H Q E →
      ∃ t, PSs (cxOf CX0 P w K mg base N qual (defScope st) f cdv A ou s H E).nox (defBody st) t ∧
        t { nx := fun _ H' => Q .non H', rt := Q } (start N vs) H) :
    FnG P w K mg base (k + 1) f fd ps sp := by
  obtain ⟨oc, od, kV, doc, pm, an, cdv, ct, osl, rfl, lk, hcd⟩ := F.ex
  refine ⟨cnt, fun A ou s H ar us vs Q E hgd hr e0 hb rv hsp => ?_⟩
  have inK : K.In s.heap := e0.mod.kin.keeps fun b o e => (e0.bs b o e).1
  have hlim : s.heap.NoLimit := e0.mod.nolimit.keeps fun b o e => (e0.bs b o e).1
  have kinds : ∀ y ∈ ps.zip us, (defScope st).names.lookup y.1 = some .local ∨
      ((defScope st).names.lookup y.1 = some .cell ∧ ((cellsFrom (s.heap.objs.size + 1) (defScope st).names []).lookup y.1).isSome = true) := by
    intro y hy
    cases S.par y.1 (List.of_mem_zip hy).1 with
    | inl q => exact Or.inl q
    | inr q => exact Or.inr ⟨q, PySem.W.cellsFrom_some _ _ _ (Or.inl q)⟩
  refine codeAny_call_function hr.depth (inK _ _ lk) rfl S.co S.gen rfl (PySem.W.codeRec_of inK hcd) (hb _ _ _ _ ?_)
  refine wpAny_newFunctionEnv_cells S.kind kinds fun env he s1 x => ?_
  subst he
  refine And.intro (hlim.keeps x.toInCall.keep) (codeAny_func ?_)
  obtain ⟨t, ht0, hq⟩ := body cdv A ou s H vs Q E hgd (hr.deeper _) hsp
  have ht := ht0.nox
  have J0 := inv_start (CX := CX0) S hr.hd e0 (cnt _ _ _ _ hsp) rv x (E := E)
  refine wpAny_mono (ht.run [] s1 (start N vs) H _ J0 hq) ?_ (fun e s' hs => hs)
  intro fl s' hs
  cases fl with
  | ret u =>
    obtain ⟨v, σ', H', J, r1, q⟩ := hs
    exact ⟨v, H', J.os, J.bare, J.base, J.hok, r1, q⟩
  | next =>
    obtain ⟨σ', H', J, q⟩ := hs
    exact ⟨V.non, H', J.os, J.bare, J.base, J.hok, rfl, q⟩
  | brk => exact hs.choose_spec.choose_spec.2.elim
  | cont => exact hs.choose_spec.choose_spec.2.elim
end

section
variable {X : Cx} {k : Nat} {f : Addr} {fd : FuncData} {ps ks : List Str} {sp : Sp} {dvs : List V} {ds : List Value} {E : XK} {x : Str} {p pos : Pos} {e : Expr} {es : List Expr} {t : TA}
/-- f(e, ..) of such a def -/
theorem pe_callGd (F : FnG X.prog X.w X.K X.mg X.base k f fd ps sp) (hgd : X.A.guards = some []) (hr : Room k X.A) (hg : Gl X x) (hm : X.mg x = some (.ref f)) (hk : PySem.W.keepIn X.K (.ref f) = true)
    (hb : Binds X.K fd ps []) (ha : PA X (e :: es) t) (hdb : (x == ("__debug__" : Str)) = false := by decide)
    (he : starEach (e :: es) X.env = (false, eval e X.env) :: starEach es X.env := by rfl) (hpl : (backTo pos (starEach es X.env)).any (·.1) = false := by rfl) :
    PE X (.Call (.Name x p) (e :: es) [] pos) (fun σ H Q => t σ H fun vs H1 => sp vs H1 Q E) := by
  refine ⟨fun pins s σ H Q I h => wpAny_Call_Name_kw (ld_glob I hg hm ?_ hdb)⟩
  refine PySem.W.callWith_K (h₀ := X.base) I.ok.mod.kin hk (thn (ha.run pos pins s σ H _ I h) ?_) he hpl
  intro us s1 hus
  obtain ⟨vs, H1, I1, r, q⟩ := hus
  refine ⟨I1.kIn, ?_⟩
  have hl : (us ++ []).length = ps.length := by rw [List.append_nil, ← r.length]; exact F.cnt _ _ _ _ q
  have hbt := hb s1 us I1.kIn hl
  rw [List.append_nil] at hbt
  refine wpAny_call (codeAny_mono (F.go X.A X.stack s1 H1 ⟨us, []⟩ us vs Q E hgd hr I1.env0 hbt r q) ?_)
  intro rr s' hq
  cases rr with
  | error ev => exact hq.elim
  | ok fl =>
    cases fl with
    | ret u => exact I1.after hq
    | next => exact hq.elim
    | brk => exact hq.elim
    | cont => exact hq.elim

/-- repr of a list or a tuple of plain data -/
def rRepr (K : PySem.W.Frag) : List V → Hp → VK → Prop := fun xs H Q => ∃ (a : Addr) (d : PyData), xs = [.ref a] ∧ Dp K H (.ref a) d ∧ d.showable = true ∧ d.hasDict = false ∧ d.depth ≤ 60 ∧
  d.shown.length ≤ sizeLine ∧ Q (.str d.shown) H
theorem call_reprD (hgd : X.A.guards = some []) (hu : X.A.units + 64 < cLine) : CallR X (.builtin "repr") (rRepr X.K) := by
  intro pins s σ H xs us Q I r h
  obtain ⟨a, d, rfl, hd, hs, hnd, hdp, hz, q⟩ := h
  obtain ⟨u, rfl, ru⟩ := vals1 r
  obtain rfl : u = Value.ref a := ru
  obtain ⟨as, r1⟩ := Dp.reads I d (.ref a) (.ref a) hd rfl
  refine repr_of_reads' r1 hs (fun z => by rw [hnd] at z; cases z) hgd (by omega) (fun _ _ e => e) (fun h' tu tk hk => ?_) hz
  refine ⟨.str d.shown, H, ?_, ⟨tu, rfl⟩, q⟩
  exact I.kept (t' := tk) hk
/-- x * n of a text -/
def rMulS : R2 := fun x y H Q => ∃ (z : Str) (n : Int), x = .str z ∧ y = .int n ∧ 0 ≤ n ∧ n < 2 ^ 30 ∧ z.length * n.toNat ≤ 1000000 ∧ Q (.str (Txt.mul z n)) H
end
end G1
/-! the end of a row whose law calls repr -/
namespace G1
open PySem PySem.Spec PyProof.Rows L2

theorem enterG {P : Program} {w : World} {K : PySem.W.Frag} {mg mb : Str → Option Value} {k : Nat} {fa a : Addr} {fd : FuncData} {x : Str} {sp : Sp} {s₁ : Shared} {vs : List Value} {ns : List Int}
    (inK : K.In s₁.heap) (hns : s₁.heap.Ns mainGlobals mg) (hbn : s₁.heap.Ns builtinsNs mb) (hbb : ∀ x : Str, x ≠ "__name__" → mb x = bootBuiltins x) (hlim : s₁.heap.NoLimit) (hg0 : s₁.gens = #[])
    (ha : s₁.heap.get? a = some { cls := .type "list", data := .seq vs.toArray }) (hi : IntsAre vs ns) (hl : ns.length ≤ sizeLine) (hr : Room k callerA)
    (F : ∀ base : Heap, K.In base → base.Ns mainGlobals mg → FnG P w K mg base k fa fd [x] sp)
    (hbind : ∀ (s : Shared) (u : Value), BindsTo s fd ⟨[u], []⟩ [(x, u)])
    (hsp : ∀ H : Hp, Only H → SqL K H a (ns.map V.int) → sp [.ref a] H (fun v _ => v = .bl true) fun _ _ _ => False) :
    codeAny (model P w) callerA (.call (.ref fa) ⟨[.ref a], []⟩)
      (fun r s' => r = .ok (.ret (.bool true)) ∧ OldK s₁.heap s'.heap ∧ s'.os = s₁.os ∧ AllBare s'.gens) s₁ := by
  have rv := vals_ints hi
  have lv := hi.length
  suffices core : ∀ H : Hp, Only H → SqL K H a (ns.map V.int) → HOk P w H s₁.heap → (∀ b, H b ≠ none → b = a ∧ K.lookup a = none) →
      codeAny (model P w) callerA (.call (.ref fa) ⟨[.ref a], []⟩)
        (fun r s' => r = .ok (.ret (.bool true)) ∧ OldK s₁.heap s'.heap ∧ s'.os = s₁.os ∧ AllBare s'.gens) s₁ by
    by_cases hk : K.lookup a = none
    · refine core (fun b => if b = a then some (.frz { cls := .type "list", data := .seq vs.toArray } (.lst (ns.map V.int))) else none) ?_ (Or.inl (Or.inr ⟨_, if_pos rfl⟩)) ?_ ?_
      · intro b
        by_cases hb : b = a
        · exact Or.inr ⟨_, _, if_pos hb⟩
        · exact Or.inl (if_neg hb)
      · intro b u z
        dsimp only at z
        by_cases hb : b = a
        · rw [if_pos hb] at z
          cases z
          subst hb
          exact ⟨ha, by rw [List.length_map]; exact hl, vs, _, rv, ha⟩
        · rw [if_neg hb] at z
          cases z
      · intro b z
        by_cases hb : b = a
        · exact ⟨hb, hk⟩
        · exact absurd (if_neg hb) z
    · obtain ⟨o, ho⟩ := Option.ne_none_iff_exists'.mp hk
      have e := inK a o ho
      rw [ha] at e
      cases e
      exact core (fun _ => none) (fun _ => Or.inl rfl) (Or.inr ⟨_, vs.toArray, _, ho, rfl, rfl, rfl, by rw [List.size_toArray, lv]; exact hl, by simpa using rv⟩)
        (fun b u z => by cases z) (fun b z => absurd rfl z)
  intro H hO hS hok hA
  have untr : ∀ {b : Addr} {o : Obj} {es : Array DictEntry} {ep : Nat}, s₁.heap.get? b = some o → o.data = .dict es ep → H b = none := by
    intro b o es ep e d
    by_cases q : H b = none
    · exact q
    · obtain ⟨rfl, _⟩ := hA b q
      rw [ha] at e
      cases e
      exact nomatch d
  have tohid : ∀ {b : Addr} {m : Str → Option Value}, s₁.heap.Ns b m → (hidT s₁.heap H).Ns b m := by
    rintro b m ⟨o, es, ep, e, d, r⟩
    exact ⟨o, es, ep, hidT_get e (untr e d), d, r⟩
  have hKb : K.In (hidT s₁.heap H) := by
    intro b o e
    refine hidT_get (inK b o e) ?_
    by_cases q : H b = none
    · exact q
    · obtain ⟨rfl, z⟩ := hA b q
      rw [z] at e
      cases e
  obtain ⟨mc, l1, l2⟩ := hlim
  have hM : Mod K mg (hidT s₁.heap H) := ⟨hKb, tohid hns, ⟨mb, tohid hbn, hbb⟩, ⟨mc, tohid l1, l2⟩⟩
  have e0 : Env0 P w K mg (hidT s₁.heap H) callerA [] s₁ H :=
    ⟨rfl, hM, fun b o e => of_hidT e, Nat.le_of_eq (hidT_size _ _), trivial, fun b hb => (List.not_mem_nil hb).elim, hok, .of_eq hg0⟩
  refine codeAny_mono ((F _ hKb (tohid hns)).go callerA [] s₁ H ⟨[.ref a], []⟩ [.ref a] [.ref a] _ _ rfl hr e0 (hbind s₁ (.ref a)) (.cons rfl .nil) (hsp H hO hS)) ?_
  intro r s' h
  cases r with
  | error e => exact h.elim
  | ok fl =>
    cases fl with
    | next => exact h.elim
    | brk => exact h.elim
    | cont => exact h.elim
    | ret u =>
      obtain ⟨v, H', os, bare, un, hok', r', q⟩ := h
      subst q
      obtain rfl : u = Value.bool true := r'
      refine ⟨rfl, OldK.of_keep (fun b o e => ?_), os, bare⟩
      rcases hO b with z | ⟨ob, xs, z⟩
      · exact un.keep b o e z (fun y => (List.not_mem_nil y).elim) List.not_mem_nil
      · obtain ⟨e1, _⟩ := hok b _ z
        obtain ⟨e2, _⟩ := hok' b _ (un.frzs b ob _ z)
        rw [e] at e1
        cases e1
        exact e2

theorem walkG {l : PySem.W.OpenLaw} {n k : Nat} {q : Program} {loose : List Str} {XP : (Str → Option Value) → Heap → Prop} {YP : World → Heap → Prop} {d : DefRec} {K : Params → PySem.W.Frag} {sp : PySem.W.Frag → Sp} {x : Str}
    (hn : l.most = some n) (hn2 : n ≤ sizeLine) (hdf : d.params.defaults = []) (hr : Room k callerA)
    (hY : ∀ (w : World) (h : Heap), YP w h → (K w.params).In h)
    (F : ∀ (w : World) (mg : Str → Option Value) (fa : Addr) (h : Heap), (K w.params).In h → h.Ns mainGlobals mg → mg d.name = some (.ref fa) →
      ∃ fd : FuncData, (∀ (s : Shared) (u : Value), BindsTo s fd ⟨[u], []⟩ [(x, u)]) ∧
        ∀ base : Heap, (K w.params).In base → base.Ns mainGlobals mg → FnG l.prog w (K w.params) mg base k fa fd [x] (sp (K w.params)))
    (hsp : ∀ (K : PySem.W.Frag) (H : Hp) (a : Addr) (ns : List Int), ns.length ≤ n → Only H → SqL K H a (ns.map V.int) → sp K [.ref a] H (fun v _ => v = .bl true) fun _ _ _ => False) :
    PySem.W.WalkO q loose XP YP l.row.toRowW d [] (fun f vs => PySem.call f vs) := by
  refine Att.attach_call hn hdf ?_
  intro w s₀ s₁ mg mb fa o pm cd doc a vs ns G Y ho hd hcd hmg hobj hints hlen hg0
  have inK := hY w _ Y
  obtain ⟨fd, hb, hF⟩ := F w mg fa _ inK G.T.g hmg
  exact enterG inK G.T.g G.T.b G.T.builtins G.T.nolimit hg0 hobj hints (Nat.le_trans hlen hn2) hr hF hb (fun H hO hS => hsp _ H a ns hlen hO hS)
end G1
/-! texts of the signs 0 and 1, as lists of bools -/
namespace G1
open PySem PySem.Spec PyProof.Rows L2

def cB (b : Bool) : Nat := if b then 49 else 48
def B (l : List Bool) : Str := SX.S (l.map cB)
theorem cB_inj {a b : Bool} (h : cB a = cB b) : a = b := by
  cases a <;> cases b <;> first | rfl | (exact absurd h (by decide))
theorem map_cB_inj : ∀ {l m : List Bool}, l.map cB = m.map cB → l = m
  | [], [], _ => rfl
  | [], _ :: _, h => by cases h
  | _ :: _, [], h => by cases h
  | a :: l, b :: m, h => by
    rw [List.map_cons, List.map_cons] at h
    injection h with h1 h2
    rw [cB_inj h1, map_cB_inj h2]
theorem B_inj {l m : List Bool} (h : B l = B m) : l = m := map_cB_inj (SX.S_inj h)
theorem B_dec (l m : List Bool) : decide (V.str (B l) = V.str (B m)) = decide (l = m) := by
  by_cases h : l = m
  · rw [h, decide_eq_true rfl, decide_eq_true rfl]
  · rw [decide_eq_false h, decide_eq_false fun e => h (B_inj (V.str.inj e))]
theorem B_len (l : List Bool) : (B l).length = l.length := by
  unfold B
  rw [SX.S_len, List.length_map]
theorem B_cps (l : List Bool) : (B l).cps.toList = l.map cB := rfl
theorem B_app (l m : List Bool) : B l ++ B m = B (l ++ m) := by
  unfold B
  rw [SX.S_cat, List.map_append]
theorem B_nil : ("" : Str) = B [] := by decide +kernel
theorem B_0 : ("0" : Str) = B [false] := by decide +kernel
theorem B_1 : ("1" : Str) = B [true] := by decide +kernel
theorem B_one (b : Bool) : (⟨#[cB b]⟩ : Str) = B [b] := by cases b <;> decide +kernel
theorem B_str0 : (Str.ofString (toString (0 : Int))) = B [false] := by decide +kernel
theorem B_str1 : (Str.ofString (toString (1 : Int))) = B [true] := by decide +kernel
theorem B_str (i : Int) (h0 : 0 ≤ i) (h2 : i < 2) : (Str.ofString (toString i)) = B [decide (i = 1)] := by
  have h : i = 0 ∨ i = 1 := by omega
  rcases h with rfl | rfl
  · exact B_str0
  · exact B_str1

/-! ### slices -/
theorem B_cut (l : List Bool) (lo hi : Option Int) : cutS (B l) lo hi = B ((l.drop (HT.sIx l.length 0 lo)).take (HT.sIx l.length l.length hi - HT.sIx l.length 0 lo)) := by
  unfold cutS B
  rw [SX.S_len, List.length_map, ← List.map_drop, ← List.map_take]
theorem sIx_of (n d : Nat) {i : Int} (h : 0 ≤ i) : HT.sIx n d (some i) = min i.toNat n := by
  show (if i < 0 then (i + (n : Int)).toNat else min i.toNat n) = _
  rw [if_neg (by omega)]
theorem B_to (l : List Bool) {j : Int} (h : 0 ≤ j) : cutS (B l) none (some j) = B (l.take j.toNat) := by
  rw [B_cut, sIx_of _ _ h]
  show B ((l.drop 0).take (min j.toNat l.length - 0)) = _
  rw [List.drop_zero, Nat.sub_zero, ← List.take_eq_take_min]
theorem B_from (l : List Bool) {i : Int} (h : 0 ≤ i) : cutS (B l) (some i) none = B (l.drop i.toNat) := by
  rw [B_cut, sIx_of _ _ h]
  show B ((l.drop (min i.toNat l.length)).take (l.length - min i.toNat l.length)) = _
  rw [List.take_of_length_le (by rw [List.length_drop]; omega)]
  by_cases hi : i.toNat ≤ l.length
  · rw [Nat.min_eq_left hi]
  · rw [Nat.min_eq_right (by omega), List.drop_length, List.drop_of_length_le (by omega)]
theorem B_mid (l : List Bool) {i j : Int} (h : 0 ≤ i) (hj : 0 ≤ j) : cutS (B l) (some i) (some j) = B ((l.take j.toNat).drop i.toNat) := by
  rw [B_cut, sIx_of _ _ h, sIx_of _ _ hj]
  congr 1
  apply List.ext_getElem?
  intro k
  rw [List.getElem?_take, List.getElem?_drop, List.getElem?_drop, List.getElem?_take]
  by_cases hi : i.toNat ≤ l.length
  · rw [Nat.min_eq_left hi]
    by_cases hj2 : j.toNat ≤ l.length
    · rw [Nat.min_eq_left hj2]
      by_cases h3 : k < j.toNat - i.toNat
      · rw [if_pos h3, if_pos (by omega)]
      · rw [if_neg h3, if_neg (by omega)]
    · rw [Nat.min_eq_right (by omega)]
      by_cases h3 : k < l.length - i.toNat
      · rw [if_pos h3, if_pos (by omega)]
      · rw [if_neg h3]
        split
        · exact (List.getElem?_eq_none (by omega)).symm
        · rfl
  · have hm : min i.toNat l.length = l.length := Nat.min_eq_right (Nat.le_of_lt (Nat.lt_of_not_le hi))
    rw [hm, List.getElem?_eq_none (by omega), List.getElem?_eq_none (by omega)]
    split <;> split <;> rfl

/-! ### signs -/
theorem B_at (l : List Bool) {i : Int} {k : Nat} {b : Bool} (hi : i = (k : Int)) (h : l[k]? = some b) : atI (B l).cps.toList i = some (cB b) := by
  subst hi
  refine atI_nat ?_
  rw [B_cps, List.getElem?_map, h]
  rfl
theorem B_atNeg (l : List Bool) {i : Int} {k : Nat} {b : Bool} (hi : i = -1 - (k : Int)) (hk : k < l.length) (h : l[l.length - 1 - k]? = some b) : atI (B l).cps.toList i = some (cB b) := by
  unfold atI ixN
  have e1 : (B l).cps.toList.length = l.length := by rw [B_cps, List.length_map]
  rw [e1, if_neg (by omega), if_pos (by omega)]
  show (B l).cps.toList[(i + (l.length : Int)).toNat]? = _
  rw [show (i + (l.length : Int)).toNat = l.length - 1 - k by omega, B_cps, List.getElem?_map, h]
  rfl

/-! ### many times -/
def rep (n : Nat) (l : List Bool) : List Bool := (List.replicate n l).flatten
theorem rep_zero (l : List Bool) : rep 0 l = [] := rfl
theorem rep_succ (n : Nat) (l : List Bool) : rep (n + 1) l = l ++ rep n l := by
  unfold rep
  rw [List.replicate_succ, List.flatten_cons]
theorem rep_length (n : Nat) (l : List Bool) : (rep n l).length = n * l.length := by
  induction n with
  | zero => rw [rep_zero, Nat.zero_mul]; rfl
  | succ n ih => rw [rep_succ, List.length_append, ih, Nat.succ_mul, Nat.add_comm]
theorem rep_get (n : Nat) (l : List Bool) (i : Nat) (h : i < n * l.length) : (rep n l)[i]? = l[i % l.length]? := by
  induction n generalizing i with
  | zero => rw [Nat.zero_mul] at h; omega
  | succ n ih =>
    rw [rep_succ]
    by_cases hi : i < l.length
    · rw [List.getElem?_append_left hi, Nat.mod_eq_of_lt hi]
    · have h1 : l.length ≤ i := by omega
      rw [List.getElem?_append_right h1, ih (i - l.length) (by rw [Nat.succ_mul] at h; omega), ← Nat.mod_eq_sub_mod h1]
theorem foldl_app (c : Array Nat) : ∀ (n : Nat) (acc : Array Nat), ((List.replicate n c).foldl (· ++ ·) acc).toList = acc.toList ++ (List.replicate n c.toList).flatten
  | 0, acc => by simp
  | n + 1, acc => by
    rw [List.replicate_succ, List.foldl_cons, foldl_app c n, List.replicate_succ, List.flatten_cons, Array.toList_append, List.append_assoc]
theorem map_rep (n : Nat) (l : List Bool) : (rep n l).map cB = (List.replicate n (l.map cB)).flatten := by
  induction n with
  | zero => rfl
  | succ n ih => rw [rep_succ, List.map_append, ih, List.replicate_succ, List.flatten_cons]
theorem B_mul (l : List Bool) {n : Int} (h : 0 ≤ n) : Txt.mul (B l) n = B (rep n.toNat l) := by
  unfold Txt.mul
  by_cases h1 : n < 1
  · rw [if_pos h1, show n.toNat = 0 by omega, rep_zero]
    rfl
  · rw [if_neg h1]
    by_cases h2 : (n == 1 || (B l).length == 0) = true
    · rw [if_pos h2]
      rw [Bool.or_eq_true, beq_iff_eq, beq_iff_eq, B_len] at h2
      rcases h2 with h2 | h2
      · subst h2
        show B l = B (rep 1 l)
        rw [rep_succ, rep_zero, List.append_nil]
      · rw [List.length_eq_zero_iff] at h2
        subst h2
        congr 1
        have := rep_length n.toNat []
        rw [List.length_nil, Nat.mul_zero, List.length_eq_zero_iff] at this
        exact this.symm
    · rw [if_neg h2]
      unfold B
      rw [map_rep]
      refine TL.ext_tl ?_
      show (List.foldl (· ++ ·) #[] (List.replicate n.toNat (SX.S (l.map cB)).cps)).toList = _
      rw [foldl_app]
      simp [TL.tl]

/-! ### joined -/
theorem join_nil (ls : List (List Bool)) : Txt.join (B []) (ls.map B) = B ls.flatten := by
  have e : ls.map B = (ls.map (List.map cB)).map SX.S := by rw [List.map_map]; rfl
  rw [e]
  show Txt.join (SX.S []) _ = _
  rw [SX.join_S]
  unfold B
  congr 1
  have key : ∀ ms : List (List Nat), TL.joinL [] ms = ms.flatten := by
    intro ms
    induction ms with
    | nil => rfl
    | cons m ms ih =>
      cases ms with
      | nil => simp [TL.joinL]
      | cons k ks =>
        rw [List.flatten_cons, ← ih]
        simp [TL.joinL]
  rw [key, ← List.map_flatten]
end G1
namespace G1
open PySem PySem.Spec PyProof.Rows L2
section
variable {X : Cx}
theorem tooLong_no {n : Nat} (h : n ≤ 1000000) : Builtin.Str.tooLong n = false := by
  unfold Builtin.Str.tooLong
  rw [decide_eq_false_iff_not]
  exact Nat.not_lt.mpr (Nat.le_trans h (by decide))
theorem op_mulS : OpR X (binaryOp .Mult) rMulS := by
  intro pins s σ H x y v u Q I rx ry h
  obtain ⟨z, n, rfl, rfl, h0, h1, h2, q⟩ := h
  obtain ⟨t, rfl⟩ := rx
  obtain ⟨t2, rfl⟩ := ry
  have hb : z.length = 0 ∨ n.toNat = 0 ∨ (z.length ≤ 1000000) := by
    rcases Nat.eq_zero_or_pos z.length with e | e
    · exact .inl e
    · rcases Nat.eq_zero_or_pos n.toNat with e2 | e2
      · exact .inr (.inl e2)
      · refine .inr (.inr (Nat.le_trans ?_ h2))
        exact Nat.le_mul_of_pos_right _ e2
  refine PySem.SB.mul ⟨?_, fun a b c => ?_, fun a b => tooLong_no h2⟩ fun t' k => ⟨.str (Txt.mul z n), H, I.tok _, ⟨_, rfl⟩, q⟩
  · rw [Bool.or_eq_false_iff]
    exact ⟨decide_eq_false (by omega), decide_eq_false (by omega)⟩
  · rw [Bool.or_eq_false_iff] at b
    have hz : z.length ≠ 0 := by
      have := b.2
      simpa using this
    have hz2 : (z.length : Int) ≤ 1000000 := by omega
    have h3 : (2 ^ 63 - 1 : Int) / n ≥ 1000000 := by
      apply Int.le_ediv_of_mul_le (by omega)
      omega
    omega
end
theorem szM {n : Nat} (h : n ≤ 1000000) : n ≤ sizeLine := Nat.le_trans h (by decide)
end G1
namespace G1
open PySem PySem.Spec PyProof.Rows L2
theorem B_last (l : List Bool) : cutS (B l) (some (-1)) none = B (l.drop (l.length - 1)) := by
  rw [B_cut]
  have e : HT.sIx l.length 0 (some (-1)) = l.length - 1 := by
    show (if (-1 : Int) < 0 then (-1 + (l.length : Int)).toNat else min (-1 : Int).toNat l.length) = _
    rw [if_pos (by decide)]
    omega
  rw [e]
  show B ((l.drop (l.length - 1)).take (l.length - (l.length - 1))) = _
  rw [List.take_of_length_le (by rw [List.length_drop]; omega)]
theorem B_init (l : List Bool) : cutS (B l) none (some (-1)) = B (l.take (l.length - 1)) := by
  rw [B_cut]
  have e : HT.sIx l.length l.length (some (-1)) = l.length - 1 := by
    show (if (-1 : Int) < 0 then (-1 + (l.length : Int)).toNat else min (-1 : Int).toNat l.length) = _
    rw [if_pos (by decide)]
    omega
  rw [e]
  show B ((l.drop 0).take (l.length - 1 - 0)) = _
  rw [List.drop_zero, Nat.sub_zero]
end G1
/-! calls by keywords alone; repr of a truth -/
namespace G1
open PySem PySem.Spec PyProof.Rows L2
section
variable {X : Cx} {CX : CXT} {k : Nat} {f : Addr} {fd : FuncData} {ps ks : List Str} {sp : Sp} {E : XK} {x : Str} {p pos : Pos} {kws : List Keyword} {tk : TA}
variable {g : List Value → List Value → List Value} {gV : List V → List V → List V}
/-- f(k = v, ..) -/
theorem pe_callK0 (F : FnOk X.prog X.w X.K X.mg X.base CX k f fd ps sp) (hr : Room k X.A) (hg : Gl X x) (hm : X.mg x = some (.ref f)) (hk : PySem.W.keepIn X.K (.ref f) = true) (hb : KBinds X.K fd ps ks g gV) (hx : Passes CX X E)
    (hkw : PK X kws tk) (hall : (backToKw pos (keywordEach kws X.env)).all (·.1.isSome) = true := by rfl) (hks : (backToKw pos (keywordEach kws X.env)).filterMap (·.1) = ks := by rfl)
    (hdb : (x == ("__debug__" : Str)) = false := by decide)
    (hpl : ((backTo pos (starEach [] X.env)).any (·.1) || (backToKw pos (keywordEach kws X.env)).any (·.1.isNone)) = false := by rfl) :
    PE X (.Call (.Name x p) [] kws pos) (fun σ H Q => tk σ H fun zs H1 => sp (gV [] zs) H1 Q E) := by
  refine ⟨fun pins s σ H Q I h => wpAny_Call_Name_kw (ld_glob I hg hm ?_ hdb)⟩
  refine PySem.W.callWith_KW0 (h₀ := X.base) I.ok.mod.kin hk hall (thn (hkw.run pos pins s σ H _ I h) ?_) hpl
  intro ws s2 hws
  obtain ⟨zs, H2, I2, rz, q2⟩ := hws
  refine ⟨I2.kIn, ?_⟩
  rw [hks]
  exact run_fnk (us := []) (vs := []) F hr hb hx I2 .nil rz q2
end
/-- two keywords, the second parameter's first -/
def swapW {α : Type} : List α → List α → List α
  | [], a :: b :: _ => [b, a]
  | _, _ => []
theorem kbinds_swap {K : PySem.W.Frag} {fd : FuncData} {p0 p1 : Str}
    (h : ∀ a b : Value, bindArgs fd ⟨[], [(p1, a), (p0, b)]⟩ = pure [(p0, b), (p1, a)]) : KBinds K fd [p0, p1] [p1, p0] swapW swapW := by
  refine ⟨fun s us ws _ hl => ?_, fun {vs us zs ws} r1 r2 => ?_⟩
  · cases us with
    | cons u us => cases hl
    | nil =>
      cases ws with
      | nil => cases hl
      | cons a ws =>
        cases ws with
        | nil => cases hl
        | cons b ws => exact .of_eq (h a b)
  · cases r1 with
    | cons q t => exact .nil
    | nil =>
      cases r2 with
      | nil => exact .nil
      | cons q1 t1 =>
        cases t1 with
        | nil => exact .nil
        | cons q2 t2 => exact .cons q2 (.cons q1 .nil)
section
variable {X : Cx}
theorem call_reprB : CallR X (.builtin "repr") (fun xs H Q => ∃ b : Bool, xs = [.bl b] ∧ Q (.str (if b then "True" else "False")) H) := by
  intro pins s σ H xs us Q I r h
  obtain ⟨b, rfl, q⟩ := h
  obtain ⟨u, rfl, ru⟩ := vals1 r
  obtain rfl : u = Value.bool b := ru
  exact PySem.P.repr_of_bool ⟨.str _, H, I.tok _, ⟨_, rfl⟩, q⟩
end
end G1
namespace G1
open PySem PySem.Spec PyProof.Rows L2
/-- one keyword -/
def oneW {α : Type} : List α → List α → List α
  | [], a :: _ => [a]
  | _, _ => []
theorem kbinds_one {K : PySem.W.Frag} {fd : FuncData} {p0 : Str} (h : ∀ a : Value, bindArgs fd ⟨[], [(p0, a)]⟩ = pure [(p0, a)]) : KBinds K fd [p0] [p0] oneW oneW := by
  refine ⟨fun s us ws _ hl => ?_, fun {vs us zs ws} r1 r2 => ?_⟩
  · cases us with
    | cons u us => cases hl
    | nil =>
      cases ws with
      | nil => cases hl
      | cons a ws => exact .of_eq (h a)
  · cases r1 with
    | cons q t => exact .nil
    | nil =>
      cases r2 with
      | nil => exact .nil
      | cons q1 t1 => exact .cons q1 .nil
/-- a value by a word: what follows is shown once -/
theorem pe_cut {X : Cx} {e : Expr} {t : TE} (h : PE X e t) : PE X e (fun σ H Q => ∃ M : V → Hp → Prop, t σ H M ∧ ∀ v H', M v H' → Q v H') := by
  refine ⟨fun pins s σ H Q I hq => ?_⟩
  obtain ⟨M, h1, h2⟩ := hq
  refine thn (h.run pins s σ H M I h1) ?_
  intro u s1 hu
  obtain ⟨v, H1, I1, r1, q1⟩ := hu
  exact ⟨v, H1, I1, r1, h2 v H1 q1⟩
end G1
namespace G1
open PySem PySem.Spec PyProof.Rows L2
theorem cB_small (b : Bool) : cB b < 16 ^ 8 := by cases b <;> decide
theorem leaf_B (l : List Bool) : PyData.leavesShort 8 (.str (B l)) = true := by
  simp only [PyData.leavesShort, List.all_eq_true, decide_eq_true_eq]
  intro c hc
  rw [B_cps] at hc
  obtain ⟨b, _, rfl⟩ := List.mem_map.mp hc
  exact cB_small b
theorem w_B (l : List Bool) : PyData.weight (.str (B l)) = l.length := by
  simp only [PyData.weight]
  exact B_len l
/-- repr of one object, read as data that is not great -/
theorem go_repr {K : PySem.W.Frag} {H : Hp} {R : PyData → Prop} {a : Addr} (d : PyData) (hd : Dp K H (.ref a) d) (h1 : d.showable = true) (h2 : d.hasDict = false) (h3 : d.depth ≤ 60) (h4 : d.leavesShort 8 = true) (h5 : d.weight ≤ 2 ^ 20) (q : R d) :
    ∃ (a' : Addr) (d' : PyData), [V.ref a] = [V.ref a'] ∧ Dp K H (.ref a') d' ∧ d'.showable = true ∧ d'.hasDict = false ∧ d'.depth ≤ 60 ∧ d'.shown.length ≤ sizeLine ∧ R d' :=
  ⟨a, d, rfl, hd, h1, h2, h3, PyData.shown_fits (Nat.le_refl _) (by decide) h4 h5, q⟩
theorem str_refl (z : Str) : decide (V.str z = V.str z) = true := decide_eq_true rfl
end G1
namespace G1
open PySem PySem.Spec PyProof.Rows L2
/-- the data of a table, of lists of texts and of truths -/
def dTab (h t : List Bool) : PyData := .tuple [.str (B h), .str (B t)]
theorem dp_tab {K : PySem.W.Frag} {H : Hp} {p : Addr} {h t : List Bool} (e : H p = some (.tup [.str (B h), .str (B t)])) : Dp K H (.ref p) (dTab h t) :=
  .tup (.inl (.inl e)) (.cons (.str _) (.cons (.str _) .nil))
def dStrs (ls : List (List Bool)) : PyData := .list (ls.map fun l => .str (B l))
def dBools (bs : List Bool) : PyData := .list (bs.map PyData.bool)
theorem dpAll_strs {K : PySem.W.Frag} {H : Hp} : ∀ ls : List (List Bool), DpAll K H (ls.map fun l => V.str (B l)) (ls.map fun l => .str (B l))
  | [] => .nil
  | l :: ls => .cons (.str _) (dpAll_strs ls)
theorem dpAll_bools {K : PySem.W.Frag} {H : Hp} : ∀ bs : List Bool, DpAll K H (bs.map V.bl) (bs.map PyData.bool)
  | [] => .nil
  | b :: bs => .cons (.bl _) (dpAll_bools bs)
/-- repr of a table -/
theorem repr_tab {K : PySem.W.Frag} {H : Hp} {R : PyData → Prop} {a : Addr} {h t : List Bool} (e : H a = some (.tup [.str (B h), .str (B t)])) (h1 : h.length ≤ 5000) (t1 : t.length ≤ 5000) (q : R (dTab h t)) :
    ∃ (a' : Addr) (d' : PyData), [V.ref a] = [V.ref a'] ∧ Dp K H (.ref a') d' ∧ d'.showable = true ∧ d'.hasDict = false ∧ d'.depth ≤ 60 ∧ d'.shown.length ≤ sizeLine ∧ R d' := by
  refine go_repr (dTab h t) (dp_tab e) ?_ ?_ ?_ ?_ ?_ q
  · simp [dTab, PyData.showable, PyData.showableAll]
  · simp [dTab, PyData.hasDict, PyData.hasDictAll]
  · simp [dTab, PyData.depth, PyData.depthAll]
  · simp only [dTab, PyData.leavesShort, PyData.leavesShortAll, Bool.and_eq_true]
    exact ⟨leaf_B h, leaf_B t, trivial⟩
  · simp only [dTab, PyData.weight, PyData.weightAll]
    have e1 := w_B h
    have e2 := w_B t
    simp only [PyData.weight] at e1 e2
    omega
/-- repr of three texts -/
theorem repr_s3 {K : PySem.W.Frag} {H : Hp} {R : PyData → Prop} {a : Addr} {x y z : List Bool} (e : H a = some (.lst [.str (B x), .str (B y), .str (B z)])) (h1 : x.length ≤ 100000) (h2 : y.length ≤ 100000) (h3 : z.length ≤ 100000) (q : R (dStrs [x, y, z])) :
    ∃ (a' : Addr) (d' : PyData), [V.ref a] = [V.ref a'] ∧ Dp K H (.ref a') d' ∧ d'.showable = true ∧ d'.hasDict = false ∧ d'.depth ≤ 60 ∧ d'.shown.length ≤ sizeLine ∧ R d' := by
  refine go_repr (dStrs [x, y, z]) (.lst (.inl (.inl e)) (dpAll_strs [x, y, z])) ?_ ?_ ?_ ?_ ?_ q
  · simp [dStrs, PyData.showable, PyData.showableAll]
  · simp [dStrs, PyData.hasDict, PyData.hasDictAll]
  · simp [dStrs, PyData.depth, PyData.depthAll]
  · simp only [dStrs, List.map_cons, List.map_nil, PyData.leavesShort, PyData.leavesShortAll, Bool.and_eq_true]
    exact ⟨leaf_B x, leaf_B y, leaf_B z, trivial⟩
  · simp only [dStrs, List.map_cons, List.map_nil, PyData.weight, PyData.weightAll]
    have e1 := w_B x
    have e2 := w_B y
    have e3 := w_B z
    simp only [PyData.weight] at e1 e2 e3
    omega
theorem bools_ok : ∀ bs : List Bool, PyData.showableAll (bs.map PyData.bool) = true ∧ PyData.hasDictAll (bs.map PyData.bool) = false ∧ PyData.depthAll (bs.map PyData.bool) = 0 ∧ PyData.leavesShortAll 8 (bs.map PyData.bool) = true ∧ PyData.weightAll (bs.map PyData.bool) ≤ 2 * bs.length
  | [] => by simp [PyData.showableAll, PyData.hasDictAll, PyData.depthAll, PyData.leavesShortAll, PyData.weightAll]
  | b :: bs => by
    obtain ⟨h1, h2, h3, h4, h5⟩ := bools_ok bs
    simp [PyData.showableAll, PyData.hasDictAll, PyData.depthAll, PyData.leavesShortAll, PyData.weightAll, PyData.showable, PyData.hasDict, PyData.depth, PyData.leavesShort, PyData.weight, h1, h2, h3, h4]
    omega
/-- repr of truths -/
theorem repr_bs {K : PySem.W.Frag} {H : Hp} {R : PyData → Prop} {a : Addr} (bs : List Bool) {xs : List V} (e : H a = some (.lst xs)) (ex : xs = bs.map V.bl) (hl : bs.length ≤ 1000) (q : R (dBools bs)) :
    ∃ (a' : Addr) (d' : PyData), [V.ref a] = [V.ref a'] ∧ Dp K H (.ref a') d' ∧ d'.showable = true ∧ d'.hasDict = false ∧ d'.depth ≤ 60 ∧ d'.shown.length ≤ sizeLine ∧ R d' := by
  subst ex
  obtain ⟨h1, h2, h3, h4, h5⟩ := bools_ok bs
  refine go_repr (dBools bs) (.lst (.inl (.inl e)) (dpAll_bools bs)) ?_ ?_ ?_ ?_ ?_ q
  · simp only [dBools, PyData.showable]; exact h1
  · simp only [dBools, PyData.hasDict]; exact h2
  · simp only [dBools, PyData.depth, h3]; omega
  · simp only [dBools, PyData.leavesShort]; exact h4
  · simp only [dBools, PyData.weight]; omega
end G1
namespace G1
open PySem PySem.Spec PyProof.Rows L2
def dMix (a b c : Bool) (x : List Bool) : PyData := .list [.bool a, .bool b, .bool c, .str (B x)]
theorem repr_mix {K : PySem.W.Frag} {H : Hp} {R : PyData → Prop} {p : Addr} {a b c : Bool} {x : List Bool} (e : H p = some (.lst [.bl a, .bl b, .bl c, .str (B x)])) (h1 : x.length ≤ 100000) (q : R (dMix a b c x)) :
    ∃ (a' : Addr) (d' : PyData), [V.ref p] = [V.ref a'] ∧ Dp K H (.ref a') d' ∧ d'.showable = true ∧ d'.hasDict = false ∧ d'.depth ≤ 60 ∧ d'.shown.length ≤ sizeLine ∧ R d' := by
  refine go_repr (dMix a b c x) (.lst (.inl (.inl e)) (.cons (.bl _) (.cons (.bl _) (.cons (.bl _) (.cons (.str _) .nil))))) ?_ ?_ ?_ ?_ ?_ q
  · simp [dMix, PyData.showable, PyData.showableAll]
  · simp [dMix, PyData.hasDict, PyData.hasDictAll]
  · simp [dMix, PyData.depth, PyData.depthAll]
  · simp only [dMix, PyData.leavesShort, PyData.leavesShortAll, Bool.and_eq_true]
    exact ⟨trivial, trivial, trivial, leaf_B x, trivial⟩
  · simp only [dMix, PyData.weight, PyData.weightAll]
    have e1 := w_B x
    simp only [PyData.weight] at e1
    omega
theorem L_01 : Str.ofString "01" = B [false, true] := by decide +kernel
theorem L_001 : Str.ofString "001" = B [false, false, true] := by decide +kernel
theorem L_1000 : Str.ofString "1000" = B [true, false, false, false] := by decide +kernel
end G1
namespace G1
open PySem PySem.Spec PyProof.Rows L2
/-- data that may stand in a list that is shown -/
structure Small (d : PyData) : Prop where
  sh : d.showable = true
  nd : d.hasDict = false
  dp : d.depth ≤ 20
  lv : d.leavesShort 8 = true
  wt : d.weight ≤ 20000
theorem small_bool (b : Bool) : Small (.bool b) := ⟨rfl, rfl, by simp [PyData.depth], rfl, by simp [PyData.weight]⟩
theorem small_none : Small .none := ⟨rfl, rfl, by simp [PyData.depth], rfl, by simp [PyData.weight]⟩
theorem small_B {l : List Bool} (h : l.length ≤ 20000) : Small (.str (B l)) := by
  refine ⟨rfl, rfl, by simp [PyData.depth], leaf_B l, ?_⟩
  rw [w_B]; exact h
theorem small_tab {h t : List Bool} (h1 : h.length ≤ 5000) (t1 : t.length ≤ 5000) : Small (dTab h t) := by
  refine ⟨?_, ?_, ?_, ?_, ?_⟩
  · simp [dTab, PyData.showable, PyData.showableAll]
  · simp [dTab, PyData.hasDict, PyData.hasDictAll]
  · simp [dTab, PyData.depth, PyData.depthAll]
  · simp only [dTab, PyData.leavesShort, PyData.leavesShortAll, Bool.and_eq_true]
    exact ⟨leaf_B h, leaf_B t, trivial⟩
  · simp only [dTab, PyData.weight, PyData.weightAll]
    have e1 := w_B h
    have e2 := w_B t
    simp only [PyData.weight] at e1 e2
    omega
theorem small_all : ∀ ds : List PyData, (∀ d ∈ ds, Small d) → PyData.showableAll ds = true ∧ PyData.hasDictAll ds = false ∧ PyData.depthAll ds ≤ 20 ∧ PyData.leavesShortAll 8 ds = true ∧ PyData.weightAll ds ≤ 20001 * ds.length
  | [], _ => by simp [PyData.showableAll, PyData.hasDictAll, PyData.depthAll, PyData.leavesShortAll, PyData.weightAll]
  | d :: ds, h => by
    obtain ⟨h1, h2, h3, h4, h5⟩ := small_all ds fun e he => h e (List.mem_cons_of_mem _ he)
    have s := h d List.mem_cons_self
    refine ⟨?_, ?_, ?_, ?_, ?_⟩
    · simp [PyData.showableAll, h1, s.sh]
    · simp [PyData.hasDictAll, h2, s.nd]
    · have := s.dp
      simp only [PyData.depthAll]
      omega
    · simp [PyData.leavesShortAll, h4, s.lv]
    · have := s.wt
      simp only [PyData.weightAll, List.length_cons]
      omega
/-- repr of a list of such -/
theorem repr_items {K : PySem.W.Frag} {H : Hp} {R : PyData → Prop} {a : Addr} {xs : List V} (ds : List PyData) (e : H a = some (.lst xs)) (hd : DpAll K H xs ds) (hs : ∀ d ∈ ds, Small d) (hl : ds.length ≤ 40) (q : R (.list ds)) :
    ∃ (a' : Addr) (d' : PyData), [V.ref a] = [V.ref a'] ∧ Dp K H (.ref a') d' ∧ d'.showable = true ∧ d'.hasDict = false ∧ d'.depth ≤ 60 ∧ d'.shown.length ≤ sizeLine ∧ R d' := by
  obtain ⟨h1, h2, h3, h4, h5⟩ := small_all ds hs
  refine go_repr (.list ds) (.lst (.inl (.inl e)) hd) ?_ ?_ ?_ ?_ ?_ q
  · simp only [PyData.showable]; exact h1
  · simp only [PyData.hasDict]; exact h2
  · simp only [PyData.depth]; omega
  · simp only [PyData.leavesShort]; exact h4
  · simp only [PyData.weight]
    have : 20001 * ds.length ≤ 20001 * 40 := Nat.mul_le_mul_left _ hl
    omega
theorem eqv_tab (a b c d : List Bool) : PyData.eqv (dTab a b) (dTab c d) = decide (a = c ∧ b = d) := by
  have e : ∀ x y : List Bool, (B x == B y) = decide (x = y) := fun x y => by
    by_cases h : x = y
    · subst h; simp
    · rw [decide_eq_false h]
      exact beq_eq_false_iff_ne.mpr fun z => h (B_inj z)
  have e2 : PyData.eqv (dTab a b) (dTab c d) = ((B a == B c) && ((B b == B d) && true)) := by simp only [dTab, PyData.eqv, PyData.eqvAll]
  rw [e2, e, e, Bool.and_true, Bool.decide_and]
theorem shaped_tab (h t : List Bool) : SeqAt.shaped (dTab h t) = true := by
  have l : ∀ x : List Bool, PyData.canLay0 (.str (B x)) = true := fun x => by
    simp only [PyData.canLay0, PyData.strOk]
    rw [Array.all_eq_true_iff_forall_mem]
    intro c hc
    have hc2 : c ∈ (B x).cps.toList := Array.mem_toList_iff.mpr hc
    rw [B_cps] at hc2
    obtain ⟨b, _, rfl⟩ := List.mem_map.mp hc2
    cases b <;> decide
  show (PyData.canLay0 (dTab h t) && decide (PyData.depth (dTab h t) ≤ 64)) = true
  rw [Bool.and_eq_true]
  refine ⟨?_, decide_eq_true ?_⟩
  · simp only [dTab, PyData.canLay0, PyData.canLayAll0, Bool.and_eq_true]
    exact ⟨l h, l t, trivial⟩
  · simp [dTab, PyData.depth, PyData.depthAll]
end G1
/-! what draws come from: a list of two lists and a count, changed by each draw; all else stands -/
namespace G1
open PySem PySem.Spec PyProof.Rows L2

/-- the well at w, its great cells at g -/
def WellAt (w g : Addr) (H : Hp) : Prop := ∃ (c : Addr) (gs cs : List Int) (k : Int), w ≠ g ∧ c ≠ g ∧ c ≠ w ∧ H w = some (.lst [.ref g, .ref c, .int k]) ∧
  H g = some (.lst (gs.map V.int)) ∧ H c = some (.lst (cs.map V.int)) ∧ 0 < cs.length ∧ gs.length ≤ 1000 ∧ cs.length ≤ 1000
/-- H' is as H but for the well -/
def Go (w g : Addr) (H H' : Hp) : Prop := ∀ a o, a ≠ w → a ≠ g → H a = some o → H' a = some o
theorem Go.refl {w g : Addr} {H : Hp} : Go w g H H := fun _ _ _ _ h => h
theorem Go.trans {w g : Addr} {H H1 H2 : Hp} (a : Go w g H H1) (b : Go w g H1 H2) : Go w g H H2 := fun x o h1 h2 h => b x o h1 h2 (a x o h1 h2 h)
theorem Go.of {w g : Addr} {H H' : Hp} (h : Same H H') : Go w g H H' := fun x o _ _ e => h x o e
/-- o stands at a, apart from the well -/
structure At (w g : Addr) (H : Hp) (a : Addr) (o : HO) : Prop where
  nw : a ≠ w
  ng : a ≠ g
  at_ : H a = some o
theorem At.go {w g : Addr} {H H' : Hp} {a : Addr} {o : HO} (x : At w g H a o) (s : Go w g H H') : At w g H' a o := ⟨x.nw, x.ng, s a o x.nw x.ng x.at_⟩
theorem same_new {H : Hp} {p : Addr} {o : HO} (h : H p = none) : Same H (upd H p o) := fun b x e => by
  rw [upd_ne (ne_of_none e h)]
  exact e
theorem Same.rfl' {H : Hp} : Same H H := fun _ _ h => h
theorem WellAt.same {w g : Addr} {H H' : Hp} (W : WellAt w g H) (s : Same H H') : WellAt w g H' := by
  obtain ⟨c, gs, cs, k, h1, h2, h3, h4, h5, h6, h7⟩ := W
  exact ⟨c, gs, cs, k, h1, h2, h3, s _ _ h4, s _ _ h5, s _ _ h6, h7⟩
theorem WellAt.fresh {w g p : Addr} {H : Hp} (W : WellAt w g H) (h : H p = none) : p ≠ w ∧ p ≠ g := by
  obtain ⟨c, gs, cs, k, h1, h2, h3, h4, h5, h6, h7⟩ := W
  exact ⟨(ne_of_none h4 h).symm, (ne_of_none h5 h).symm⟩
/-- a new object beside the well -/
theorem new_w {w g : Addr} {H : Hp} {o : HO} {Q : VK} (W : WellAt w g H)
    (h : ∀ p H', H p = none → Same H H' → WellAt w g H' → At w g H' p o → Q (.ref p) H') : ∀ p, H p = none → Q (.ref p) (upd H p o) := fun p hp =>
  h p _ hp (same_new hp) (W.same (same_new hp)) ⟨(W.fresh hp).1, (W.fresh hp).2, upd_same⟩
/-- a new object -/
theorem new_s {H : Hp} {o : HO} {Q : VK} (h : ∀ p H', H p = none → Same H H' → H' p = some o → Q (.ref p) H') : ∀ p, H p = none → Q (.ref p) (upd H p o) :=
  fun p hp => h p _ hp (same_new hp) upd_same
theorem new_of {w g p : Addr} {H H' : Hp} {o : HO} (W : WellAt w g H) (hp : H p = none) (e : upd H p o = H') : Same H H' ∧ WellAt w g H' ∧ At w g H' p o := by
  subst e
  exact ⟨same_new hp, W.same (same_new hp), (W.fresh hp).1, (W.fresh hp).2, upd_same⟩
theorem new_of0 {p : Addr} {H H' : Hp} {o : HO} (hp : H p = none) (e : upd H p o = H') : Same H H' ∧ H' p = some o := by
  subst e
  exact ⟨same_new hp, upd_same⟩
theorem same_mut {H H1 : Hp} {D : Addr} {o : HO} (s : Same H H1) (h : H D = none) : Same H (upd H1 D o) := fun b x e => by
  rw [upd_ne (ne_of_none e h)]
  exact s _ _ e
theorem szl {n : Nat} (h : n ≤ 1000) : n ≤ sizeLine := Nat.le_trans h (by decide)
theorem At.sqL {K : PySem.W.Frag} {w g : Addr} {H : Hp} {a : Addr} {xs : List V} (x : At w g H a (.lst xs)) : SqL K H a xs := .inl (.inl x.at_)
theorem At.sqT {K : PySem.W.Frag} {w g : Addr} {H : Hp} {a : Addr} {xs : List V} (x : At w g H a (.tup xs)) : SqT K H a xs := .inl (.inl x.at_)
theorem sqL_of {K : PySem.W.Frag} {H : Hp} {a : Addr} {xs : List V} (h : H a = some (.lst xs)) : SqL K H a xs := .inl (.inl h)
theorem sqT_of {K : PySem.W.Frag} {H : Hp} {a : Addr} {xs : List V} (h : H a = some (.tup xs)) : SqT K H a xs := .inl (.inl h)
/-- a tuple stands apart from the well -/
theorem WellAt.tup {w g a : Addr} {H : Hp} {xs : List V} (W : WellAt w g H) (h : H a = some (.tup xs)) : At w g H a (.tup xs) := by
  obtain ⟨c, gs, cs, k, h1, h2, h3, h4, h5, h6, h7⟩ := W
  exact ⟨ne_of h h4 (by intro z; cases z), ne_of h h5 (by intro z; cases z), h⟩
end G1
namespace G1
open PySem PySem.Spec PyProof.Rows L2
theorem ifT {A B : Prop} (h : A) : if true = true then A else B := by rw [if_pos rfl]; exact h
theorem ifF {A B : Prop} (h : B) : if false = true then A else B := by rw [if_neg Bool.false_ne_true]; exact h
theorem ifD {c : Prop} [Decidable c] {A B : Prop} (h1 : c → A) (h2 : ¬ c → B) : if decide c = true then A else B := by
  by_cases h : c
  · rw [decide_eq_true h]
    exact ifT (h1 h)
  · rw [decide_eq_false h]
    exact ifF (h2 h)
theorem ifDn {c : Prop} [Decidable c] {A B : Prop} (h1 : ¬ c → A) (h2 : c → B) : if (!decide c) = true then A else B := by
  by_cases h : c
  · rw [decide_eq_true h]
    exact ifF (h2 h)
  · rw [decide_eq_false h]
    exact ifT (h1 h)
theorem ifB {b : Bool} {A B : Prop} (h1 : b = true → A) (h2 : b = false → B) : if b = true then A else B := by
  cases b with
  | true => exact ifT (h1 rfl)
  | false => exact ifF (h2 rfl)
end G1
namespace G1
open PySem PySem.Spec PyProof.Rows L2
theorem dpAll_ints {K : PySem.W.Frag} {H : Hp} : ∀ ns : List Int, DpAll K H (ns.map V.int) (ns.map PyData.int)
  | [] => .nil
  | n :: ns => .cons (.int n) (dpAll_ints ns)
theorem lay_ints : ∀ ns : List Int, PyData.canLayAll0 (ns.map PyData.int) = true
  | [] => by simp [PyData.canLayAll0]
  | n :: ns => by simp [PyData.canLayAll0, PyData.canLay0, lay_ints ns]
theorem depth_ints : ∀ ns : List Int, PyData.depthAll (ns.map PyData.int) = 0
  | [] => by simp [PyData.depthAll]
  | n :: ns => by simp [PyData.depthAll, PyData.depth, depth_ints ns]
theorem shaped_ints (ns : List Int) : SeqAt.shaped (.list (ns.map PyData.int)) = true := by
  show (PyData.canLay0 (.list (ns.map PyData.int)) && decide (PyData.depth (.list (ns.map PyData.int)) ≤ 64)) = true
  rw [Bool.and_eq_true]
  refine ⟨by simp only [PyData.canLay0]; exact lay_ints ns, decide_eq_true ?_⟩
  simp only [PyData.depth, depth_ints]
  omega
theorem eqv_ints_nil (ns : List Int) : PyData.eqv (.list (ns.map PyData.int)) (.list []) = decide (ns = []) := by
  cases ns with
  | nil => simp [PyData.eqv, PyData.eqvAll]
  | cons n ns => simp [PyData.eqv, PyData.eqvAll]
end G1

namespace G1
open PySem PySem.Spec PyProof.Rows L2
theorem ix_zero {n : Nat} (h : 0 < n) : ixN n 0 = some 0 := by
  unfold ixN
  rw [if_pos (by omega), if_pos (by omega)]
  rfl
theorem ix_at {n j : Nat} {i : Int} (e : i = (j : Int)) (h : j < n) : ixN n i = some j := by
  subst e
  unfold ixN
  rw [if_pos (by omega), if_pos (by omega)]
  rfl
end G1

namespace G1
open PySem PySem.Spec PyProof.Rows L2
theorem seq_zero (n : Nat) : seqIndex? 0 (n + 1) = some 0 := by
  unfold seqIndex?
  simp
end G1

namespace G1
open PySem PySem.Spec PyProof.Rows L2
section
variable {K : PySem.W.Frag} {H : Hp} {Q : VK} {p : Addr} {xs : List V} {v : V}
theorem go_ixL {R : V → Prop} {j : Nat} (hs : H p = some (.lst xs)) (hj : xs[j]? = some v) (q : R v) :
    ∃ p' xs' i' v', V.ref p = V.ref p' ∧ V.int (j : Int) = V.int i' ∧ SqL K H p' xs' ∧ atI xs' i' = some v' ∧ R v' :=
  ⟨p, xs, _, v, rfl, rfl, sqL_of hs, atI_nat hj, q⟩
theorem go_ixLi {R : V → Prop} {i : Int} {j : Nat} (hs : H p = some (.lst xs)) (e : i = (j : Int)) (hj : xs[j]? = some v) (q : R v) :
    ∃ p' xs' i' v', V.ref p = V.ref p' ∧ V.int i = V.int i' ∧ SqL K H p' xs' ∧ atI xs' i' = some v' ∧ R v' := by
  subst e
  exact ⟨p, xs, _, v, rfl, rfl, sqL_of hs, atI_nat hj, q⟩
theorem go_ixT {R : V → Prop} {j : Nat} (hs : H p = some (.tup xs)) (hj : xs[j]? = some v) (q : R v) :
    ∃ p' xs' i' v', V.ref p = V.ref p' ∧ V.int (j : Int) = V.int i' ∧ SqT K H p' xs' ∧ atI xs' i' = some v' ∧ R v' :=
  ⟨p, xs, _, v, rfl, rfl, sqT_of hs, atI_nat hj, q⟩
theorem go_ixLast {R : V → Prop} (hs : H p = some (.lst xs)) (hj : xs[xs.length - 1]? = some v) (q : R v) :
    ∃ p' xs' i' v', V.ref p = V.ref p' ∧ V.int (-1) = V.int i' ∧ SqL K H p' xs' ∧ atI xs' i' = some v' ∧ R v' := by
  refine ⟨p, xs, _, v, rfl, rfl, sqL_of hs, ?_, q⟩
  have hl : 0 < xs.length := by
    cases xs with
    | nil => simp at hj
    | cons a l => simp
  unfold atI ixN
  rw [if_neg (by omega), if_pos (by omega)]
  show xs[(-1 + (xs.length : Int)).toNat]? = _
  rw [show (-1 + (xs.length : Int)).toNat = xs.length - 1 by omega]
  exact hj
theorem go_tup {R : List V → Prop} (hs : H p = some (.tup xs)) (q : R xs) : ∃ a ys, V.ref p = V.ref a ∧ SqT K H a ys ∧ R ys := ⟨p, xs, rfl, sqT_of hs, q⟩
theorem go_unl {R : List V → Prop} (hs : H p = some (.lst xs)) (q : R xs) : ∃ a ys, V.ref p = V.ref a ∧ SqL K H a ys ∧ R ys := ⟨p, xs, rfl, sqL_of hs, q⟩
theorem go_lenL {R : List V → Prop} (hs : H p = some (.lst xs)) (q : R xs) : ∃ p' ys, [V.ref p] = [V.ref p'] ∧ (SqL K H p' ys ∨ SqT K H p' ys) ∧ R ys :=
  ⟨p, xs, rfl, Or.inl (sqL_of hs), q⟩
end
end G1

namespace G1
open PySem PySem.Spec PyProof.Rows L2
section
variable {l m : List Bool}
/-- len of a text of two signs -/
theorem go_lenS {R : Str → Prop} (h : l.length ≤ 1000000) (q : R (B l)) : ∃ z, [V.str (B l)] = [V.str z] ∧ z.length ≤ sizeLine ∧ R z :=
  ⟨B l, rfl, by rw [B_len]; exact szM h, q⟩
theorem go_addS {R : Str → Str → Prop} (h : l.length + m.length ≤ 1000000) (q : R (B l) (B m)) : ∃ i j, V.str (B l) = V.str i ∧ V.str (B m) = V.str j ∧ i.length + j.length ≤ sizeLine ∧ R i j :=
  ⟨B l, B m, rfl, rfl, by rw [B_len, B_len]; exact szM h, q⟩
theorem go_mulS {R : Str → Int → Prop} {n : Int} (h : 0 ≤ n ∧ n < 2 ^ 30) (h2 : l.length * n.toNat ≤ 1000000) (q : R (B l) n) :
    ∃ z k, V.str (B l) = V.str z ∧ V.int n = V.int k ∧ 0 ≤ k ∧ k < 2 ^ 30 ∧ z.length * k.toNat ≤ 1000000 ∧ R z k :=
  ⟨B l, n, rfl, rfl, h.1, h.2, by rw [B_len]; exact h2, q⟩
theorem go_sl {R : Str → Prop} (h : l.length ≤ 1000000) (q : R (B l)) : ∃ z, V.str (B l) = V.str z ∧ z.length ≤ sizeLine ∧ R z :=
  ⟨B l, rfl, by rw [B_len]; exact szM h, q⟩
theorem go_ixS {R : Nat → Prop} {i : Int} {k : Nat} {b : Bool} (hi : i = (k : Int)) (h : l.length ≤ 1000000) (hk : l[k]? = some b) (q : R (cB b)) :
    ∃ z i' c, V.str (B l) = V.str z ∧ V.int i = V.int i' ∧ z.length ≤ sizeLine ∧ atI z.cps.toList i' = some c ∧ R c :=
  ⟨B l, i, _, rfl, rfl, by rw [B_len]; exact szM h, B_at l hi hk, q⟩
theorem go_ixSn {R : Nat → Prop} {i : Int} {k : Nat} {b : Bool} (hi : i = -1 - (k : Int)) (h : l.length ≤ 1000000) (hl : k < l.length) (hk : l[l.length - 1 - k]? = some b) (q : R (cB b)) :
    ∃ z i' c, V.str (B l) = V.str z ∧ V.int i = V.int i' ∧ z.length ≤ sizeLine ∧ atI z.cps.toList i' = some c ∧ R c :=
  ⟨B l, i, _, rfl, rfl, by rw [B_len]; exact szM h, B_atNeg l hi hl hk, q⟩
end
end G1
namespace G1
open PySem PySem.Spec PyProof.Rows L2
theorem log_small {i : Int} (h0 : 0 ≤ i) (h1 : i < 2 ^ 64) : i.natAbs.log2 < 1920 := by
  have h : i.natAbs < 2 ^ 64 := by omega
  by_cases hz : i.natAbs = 0
  · rw [hz]; decide
  · exact Nat.lt_of_lt_of_le ((Nat.log2_lt hz).mpr h) (by decide)
theorem go_bit {R : Int → Prop} {i : Int} (h : 0 ≤ i ∧ i < 2) (q : R i) : ∃ k, [V.int i] = [V.int k] ∧ k.natAbs.log2 < 1920 ∧ R k :=
  ⟨i, rfl, log_small h.1 (by omega), q⟩
theorem flat_one : ∀ bs : List Bool, (bs.map fun b => [b]).flatten = bs
  | [] => rfl
  | b :: bs => by rw [List.map_cons, List.flatten_cons, flat_one bs]; rfl
theorem len_one : ∀ bs : List Bool, ((bs.map fun b => B [b]).map (·.length)).sum = bs.length
  | [] => rfl
  | b :: bs => by
    rw [List.map_cons, List.map_cons, List.sum_cons, len_one bs, B_len, List.length_cons, List.length_cons, List.length_nil]
    omega
theorem go_join {K : PySem.W.Frag} {H : Hp} {R : Str → List Str → Prop} {D : Addr} {bs : List Bool} (hD : H D = some (.lst (bs.map fun b => V.str (B [b])))) (hl : bs.length ≤ 1000000) (q : R (B []) (bs.map fun b => B [b])) :
    ∃ a p ys, V.str (B []) = V.str a ∧ [V.ref D] = [V.ref p] ∧ (SqL K H p (List.map V.str ys) ∨ SqT K H p (List.map V.str ys)) ∧ (List.map (fun x => x.length) ys).sum + ys.length * a.length ≤ 16777216 ∧ R a ys := by
  refine ⟨B [], D, bs.map fun b => B [b], rfl, rfl, Or.inl ?_, ?_, q⟩
  · rw [List.map_map]
    exact sqL_of hD
  · rw [len_one, B_len]
    simp
    omega
theorem joined (bs : List Bool) : Txt.join (B []) (bs.map fun b => B [b]) = B bs := by
  have e : (bs.map fun b => B [b]) = (bs.map fun b => [b]).map B := by rw [List.map_map]; rfl
  rw [e, join_nil, flat_one]
end G1
namespace G1
open PySem PySem.Spec PyProof.Rows L2
theorem go_in {K : PySem.W.Frag} {H : Hp} {R : Bool → Prop} {p : Addr} {x : Int} {ys : List Int} {xs : List V} (hs : H p = some (.tup xs)) (e : xs = ys.map V.int) (q : ∀ b, R b) :
    ∃ p' zs, V.ref p = V.ref p' ∧ (SqL K H p' zs ∨ SqT K H p' zs) ∧ flatV (.int x) = true ∧ zs.all flatV = true ∧ R (inV (.int x) zs) := by
  refine ⟨p, xs, rfl, Or.inr (sqT_of hs), rfl, ?_, q _⟩
  subst e
  rw [List.all_eq_true]
  intro v hv
  obtain ⟨i, _, rfl⟩ := List.mem_map.mp hv
  rfl
theorem mul_le {a b n m : Nat} (h1 : a ≤ n) (h2 : b ≤ m) (h : n * m ≤ 1000000) : a * b ≤ 1000000 := Nat.le_trans (Nat.mul_le_mul h1 h2) h
end G1
/-! texts of any signs, as lists of codes -/
namespace G1
open PySem PySem.Spec PyProof.Rows L2
def C (l : List Nat) : Str := SX.S l
theorem C_inj {l m : List Nat} (h : C l = C m) : l = m := SX.S_inj h
theorem C_dec (l m : List Nat) : decide (V.str (C l) = V.str (C m)) = decide (l = m) := by
  by_cases h : l = m
  · rw [h, decide_eq_true rfl, decide_eq_true rfl]
  · rw [decide_eq_false h, decide_eq_false fun e => h (C_inj (V.str.inj e))]
theorem C_len (l : List Nat) : (C l).length = l.length := SX.S_len l
theorem C_cps (l : List Nat) : (C l).cps.toList = l := rfl
theorem C_app (l m : List Nat) : C l ++ C m = C (l ++ m) := SX.S_cat l m
theorem C_one (c : Nat) : (⟨#[c]⟩ : Str) = C [c] := rfl
theorem C_cut (l : List Nat) (lo hi : Option Int) : cutS (C l) lo hi = C ((l.drop (HT.sIx l.length 0 lo)).take (HT.sIx l.length l.length hi - HT.sIx l.length 0 lo)) := by
  unfold cutS C
  rw [SX.S_len]
theorem C_to (l : List Nat) {j : Int} (h : 0 ≤ j) : cutS (C l) none (some j) = C (l.take j.toNat) := by
  rw [C_cut, sIx_of _ _ h]
  show C ((l.drop 0).take (min j.toNat l.length - 0)) = _
  rw [List.drop_zero, Nat.sub_zero, ← List.take_eq_take_min]
theorem C_from (l : List Nat) {i : Int} (h : 0 ≤ i) : cutS (C l) (some i) none = C (l.drop i.toNat) := by
  rw [C_cut, sIx_of _ _ h]
  show C ((l.drop (min i.toNat l.length)).take (l.length - min i.toNat l.length)) = _
  rw [List.take_of_length_le (by rw [List.length_drop]; omega)]
  by_cases hi : i.toNat ≤ l.length
  · rw [Nat.min_eq_left hi]
  · rw [Nat.min_eq_right (by omega), List.drop_length, List.drop_of_length_le (by omega)]
theorem C_mid (l : List Nat) {i j : Int} (h : 0 ≤ i) (hj : 0 ≤ j) : cutS (C l) (some i) (some j) = C ((l.take j.toNat).drop i.toNat) := by
  rw [C_cut, sIx_of _ _ h, sIx_of _ _ hj]
  congr 1
  apply List.ext_getElem?
  intro k
  rw [List.getElem?_take, List.getElem?_drop, List.getElem?_drop, List.getElem?_take]
  by_cases hi : i.toNat ≤ l.length
  · rw [Nat.min_eq_left hi]
    by_cases hj2 : j.toNat ≤ l.length
    · rw [Nat.min_eq_left hj2]
      by_cases h3 : k < j.toNat - i.toNat
      · rw [if_pos h3, if_pos (by omega)]
      · rw [if_neg h3, if_neg (by omega)]
    · rw [Nat.min_eq_right (by omega)]
      by_cases h3 : k < l.length - i.toNat
      · rw [if_pos h3, if_pos (by omega)]
      · rw [if_neg h3]
        split
        · exact (List.getElem?_eq_none (by omega)).symm
        · rfl
  · have hm : min i.toNat l.length = l.length := Nat.min_eq_right (Nat.le_of_lt (Nat.lt_of_not_le hi))
    rw [hm, List.getElem?_eq_none (by omega), List.getElem?_eq_none (by omega)]
    split <;> split <;> rfl
theorem C_at (l : List Nat) {i : Int} {k : Nat} {b : Nat} (hi : i = (k : Int)) (h : l[k]? = some b) : atI (C l).cps.toList i = some b := by
  subst hi
  exact atI_nat h
def repN (n : Nat) (l : List Nat) : List Nat := (List.replicate n l).flatten
theorem repN_zero (l : List Nat) : repN 0 l = [] := rfl
theorem repN_succ (n : Nat) (l : List Nat) : repN (n + 1) l = l ++ repN n l := by
  unfold repN
  rw [List.replicate_succ, List.flatten_cons]
theorem repN_length (n : Nat) (l : List Nat) : (repN n l).length = n * l.length := by
  induction n with
  | zero => rw [repN_zero, Nat.zero_mul]; rfl
  | succ n ih => rw [repN_succ, List.length_append, ih, Nat.succ_mul, Nat.add_comm]
theorem repN_get (n : Nat) (l : List Nat) (i : Nat) (h : i < n * l.length) : (repN n l)[i]? = l[i % l.length]? := by
  induction n generalizing i with
  | zero => rw [Nat.zero_mul] at h; omega
  | succ n ih =>
    rw [repN_succ]
    by_cases hi : i < l.length
    · rw [List.getElem?_append_left hi, Nat.mod_eq_of_lt hi]
    · have h1 : l.length ≤ i := by omega
      rw [List.getElem?_append_right h1, ih (i - l.length) (by rw [Nat.succ_mul] at h; omega), ← Nat.mod_eq_sub_mod h1]
theorem C_mul (l : List Nat) {n : Int} (h : 0 ≤ n) : Txt.mul (C l) n = C (repN n.toNat l) := by
  unfold Txt.mul
  by_cases h1 : n < 1
  · rw [if_pos h1, show n.toNat = 0 by omega, repN_zero]
    rfl
  · rw [if_neg h1]
    by_cases h2 : (n == 1 || (C l).length == 0) = true
    · rw [if_pos h2]
      rw [Bool.or_eq_true, beq_iff_eq, beq_iff_eq, C_len] at h2
      rcases h2 with h2 | h2
      · subst h2
        show C l = C (repN 1 l)
        rw [repN_succ, repN_zero, List.append_nil]
      · rw [List.length_eq_zero_iff] at h2
        subst h2
        congr 1
        have := repN_length n.toNat []
        rw [List.length_nil, Nat.mul_zero, List.length_eq_zero_iff] at this
        exact this.symm
    · rw [if_neg h2]
      unfold C repN
      refine TL.ext_tl ?_
      show (List.foldl (· ++ ·) #[] (List.replicate n.toNat (SX.S l).cps)).toList = _
      rw [foldl_app]
      simp [TL.tl]
theorem joinC (ls : List (List Nat)) : Txt.join (B []) (ls.map C) = C ls.flatten := by
  show Txt.join (SX.S []) (ls.map SX.S) = _
  rw [SX.join_S]
  unfold C
  congr 1
  have key : ∀ ms : List (List Nat), TL.joinL [] ms = ms.flatten := by
    intro ms
    induction ms with
    | nil => rfl
    | cons m ms ih =>
      cases ms with
      | nil => simp [TL.joinL]
      | cons k ks =>
        rw [List.flatten_cons, ← ih]
        simp [TL.joinL]
  exact key _
theorem C_dig (i : Nat) (h : i < 10) : (Str.ofString (toString (i : Int))) = C [48 + i] := by
  have : i = 0 ∨ i = 1 ∨ i = 2 ∨ i = 3 ∨ i = 4 ∨ i = 5 ∨ i = 6 ∨ i = 7 ∨ i = 8 ∨ i = 9 := by omega
  rcases this with rfl | rfl | rfl | rfl | rfl | rfl | rfl | rfl | rfl | rfl <;> decide +kernel
/-- join of single signs -/
theorem go_joinC {K : PySem.W.Frag} {H : Hp} {R : Str → List Str → Prop} {D : Addr} {bs : List Nat} (hD : H D = some (.lst (bs.map fun b => V.str (C [b])))) (hl : bs.length ≤ 1000000) (q : R (B []) (bs.map fun b => C [b])) :
    ∃ a p ys, V.str (B []) = V.str a ∧ [V.ref D] = [V.ref p] ∧ (SqL K H p (List.map V.str ys) ∨ SqT K H p (List.map V.str ys)) ∧ (List.map (fun x => x.length) ys).sum + ys.length * a.length ≤ 16777216 ∧ R a ys := by
  have ln : ∀ bs : List Nat, ((bs.map fun b => C [b]).map (·.length)).sum = bs.length := by
    intro bs
    induction bs with
    | nil => rfl
    | cons b bs ih =>
      rw [List.map_cons, List.map_cons, List.sum_cons, ih, C_len, List.length_cons, List.length_cons, List.length_nil]
      omega
  refine ⟨B [], D, bs.map fun b => C [b], rfl, rfl, Or.inl ?_, ?_, q⟩
  · rw [List.map_map]
    exact sqL_of hD
  · rw [ln, B_len]
    simp
    omega
theorem joinedC (bs : List Nat) : Txt.join (B []) (bs.map fun b => C [b]) = C bs := by
  have e : (bs.map fun b => C [b]) = (bs.map fun b => [b]).map C := by rw [List.map_map]; rfl
  rw [e, joinC]
  congr 1
  induction bs with
  | nil => rfl
  | cons b bs ih => rw [List.map_cons, List.flatten_cons, ih (by rw [List.map_map]; rfl)]; rfl
theorem go_lenT {K : PySem.W.Frag} {H : Hp} {p : Addr} {xs : List V} {R : List V → Prop} (hs : H p = some (.tup xs)) (q : R xs) : ∃ p' ys, [V.ref p] = [V.ref p'] ∧ (SqL K H p' ys ∨ SqT K H p' ys) ∧ R ys :=
  ⟨p, xs, rfl, Or.inr (sqT_of hs), q⟩
section
variable {l m : List Nat}
theorem goC_sl {R : Str → Prop} (h : l.length ≤ 1000000) (q : R (C l)) : ∃ z, V.str (C l) = V.str z ∧ z.length ≤ sizeLine ∧ R z :=
  ⟨C l, rfl, by rw [C_len]; exact szM h, q⟩
theorem goC_mulS {R : Str → Int → Prop} {n : Int} (h : 0 ≤ n ∧ n < 2 ^ 30) (h2 : l.length * n.toNat ≤ 1000000) (q : R (C l) n) :
    ∃ z k, V.str (C l) = V.str z ∧ V.int n = V.int k ∧ 0 ≤ k ∧ k < 2 ^ 30 ∧ z.length * k.toNat ≤ 1000000 ∧ R z k :=
  ⟨C l, n, rfl, rfl, h.1, h.2, by rw [C_len]; exact h2, q⟩
theorem goC_ixS {R : Nat → Prop} {i : Int} {k : Nat} {b : Nat} (hi : i = (k : Int)) (h : l.length ≤ 1000000) (hk : l[k]? = some b) (q : R b) :
    ∃ z i' c, V.str (C l) = V.str z ∧ V.int i = V.int i' ∧ z.length ≤ sizeLine ∧ atI z.cps.toList i' = some c ∧ R c :=
  ⟨C l, i, _, rfl, rfl, by rw [C_len]; exact szM h, C_at l hi hk, q⟩
end
end G1
/-! for i, c in enumerate(text) -/
namespace G1
open PySem PySem.Spec PyProof.Rows L2
/-- the signs of x, each in a new pair with its place -/
def Ites (x : Str) : It :=
  ⟨fun i _ => i < x.cps.size, fun i H v H' => ∃ T c, v = .ref T ∧ H T = none ∧ x.cps[i]? = some c ∧ H' = upd H T (.tup [.int (i : Nat), .str ⟨#[c]⟩]), fun i _ => i = x.cps.size⟩
theorem turn_enumS {P : Program} {w : World} {K : PySem.W.Frag} {elts : List Expr} {kk : Nat} {tpos : Pos} (x : Str) (t : Tok) (e it : Addr) (hne : e ≠ it) :
    Turn P w K (.Tuple elts kk tpos) (Ites x) [e, it] e (fun i h => (∃ old, IsEnum h e it (0 + (i : Int)) old) ∧ h.IsStrIter it (strIterType x) x t i) where
  mem := by simp
  obj := fun i h st b hb => by
    obtain ⟨⟨old, he⟩, ⟨o, ho, hc, hd⟩⟩ := st
    rcases (by simpa using hb : b = e ∨ b = it) with rfl | rfl
    · exact ⟨_, he, fun v z => nomatch z⟩
    · refine ⟨o, ho, fun v z => ?_⟩
      rw [hd] at z
      cases z
  keep := fun i h h' st k => by
    obtain ⟨⟨old, he⟩, o, ho, r⟩ := st
    exact ⟨⟨old, k e (by simp) _ he⟩, o, k it (by simp) o ho, r⟩
  item := by
    intro X hX hW hKK calm i pins s σ H E I away st hg
    subst hX hW hKK
    have D := Draws.text (prog := X.prog) (w := X.w) (A := X.A.in1) (I.ok.hd calm) it x t
    have W := GoesN.enumFrom (elts := elts) (x1 := kk) (pos := tpos) 0 D e hne (by simpa using hne) (by simp)
    refine W.goes i s _ E hg st fun v h' tk hY st' hk htk => ?_
    obtain ⟨T, t', y, ev, hT, ⟨c, u, hcx, ey⟩, hO⟩ := hY
    subst ev ey
    obtain ⟨o, ho, hoc, n, hod⟩ := hO
    have new : ObjOk X.prog X.w (upd H T (.tup [.int (i : Nat), .str ⟨#[c]⟩])) h' T (.tup [.int (i : Nat), .str ⟨#[c]⟩]) :=
      ⟨by show 2 ≤ sizeLine; decide, [.int (0 + (i : Int)) t', .str ⟨#[c]⟩ u], .cons ⟨t', by rw [Int.zero_add]⟩ (.cons ⟨u, rfl⟩ .nil), ⟨o, ho, hoc, n, hod⟩⟩
    have I1 : Inv X pins σ (upd H T (.tup [.int (i : Nat), .str ⟨#[c]⟩])) { s with heap := h', toks := tk } :=
      I.turnedNew (ch := [e, it]) hk away hT new
    refine ⟨.ref T, _, I1, rfl, ⟨T, c, rfl, I.hok.fresh hT, hcx, rfl⟩, st', fun b hb => ?_⟩
    have hb' : b < s.heap.objs.size := by
      obtain ⟨⟨old, he⟩, o2, ho2, _⟩ := st
      rcases (by simpa using hb : b = e ∨ b = it) with rfl | rfl
      · exact Heap.lt_size he
      · exact Heap.lt_size ho2
    rw [upd_ne (Nat.ne_of_lt (Nat.lt_of_lt_of_le hb' hT))]
    exact (away b hb).1
  done := by
    intro X hX hW hKK calm i pins s σ H E I away st hg
    subst hX hW hKK
    replace hg : i = x.cps.size := hg
    subst hg
    have D := Draws.text (prog := X.prog) (w := X.w) (A := X.A.in1) (I.ok.hd calm) it x t
    have W := GoesN.enumFrom (elts := elts) (x1 := kk) (pos := tpos) 0 D e hne (by simpa using hne) (by simp)
    refine W.stops s _ E st fun h' tk hk htk => ?_
    exact I.turnedL (t' := tk) (ch := [e, it]) hk away
  self := fun A i s Q E st q => wpAny_pyIter_enum st.1.choose_spec q
def iEnumS (ta : TA) : TI := fun σ H R => ta σ H fun vs H1 => ∃ x, vs = [.str x] ∧ R (Ites x) H1
theorem pi_enumS {X : Cx} {e : Expr} {ta : TA} {p pos tpos : Pos} {elts : List Expr} {kk : Nat} (hg : Gl X "enumerate") (hm : X.mg "enumerate" = none) (ha : PA X [e] ta) (hs : starEach [e] X.env = [(false, eval e X.env)] := by rfl) :
    PI X (.Tuple elts kk tpos) (.Call (.Name "enumerate" p) [e] [] pos) (iEnumS ta) := by
  refine ⟨fun pn s σ H R Iv told => Call_ (ld_blt Iv hg hm boot_enumerate (PyProof.Rows.callWith_type1 (thn (ha.run pos pn s σ H _ Iv told) ?_) hs rfl))⟩
  rintro us s1 ⟨vs, H1, I1, r1, x, rfl, q⟩
  cases r1 with
  | cons r rr =>
    cases rr
    obtain ⟨t, rfl⟩ := r
    refine call_enumerate_str fun h' he hit hsz hk => wpAny_pyIter_enum he ?_
    refine ⟨s1.heap.objs.size + 1, [s1.heap.objs.size + 1, s1.heap.objs.size], _, _, H1, rfl, I1.kept (t' := s1.toks) hk, turn_enumS x t (s1.heap.objs.size + 1) s1.heap.objs.size (Nat.succ_ne_self _), ⟨⟨.none, he⟩, hit⟩, fun b hb => ?_, q⟩
    have up : s1.heap.objs.size ≤ b := by
      rcases (by simpa using hb : b = s1.heap.objs.size + 1 ∨ b = s1.heap.objs.size) with rfl | rfl
      · exact Nat.le_succ _
      · exact Nat.le_refl _
    exact I1.fpOk up (I1.hok.fresh up)
theorem lc_enumS {x : Str} {g : TG} {tt : TT} {te : TE} {vs : List Nat} {σ : L2.St} {H1 : Hp} {D : Addr} {Qd : Hp → Prop} (Pv : Nat → Hp → Prop) (h0 : Pv 0 (upd H1 D (.lst [])))
    (hs : ∀ i c T H, x.cps[i]? = some c → Pv i H → H T = none → g (.ref T) (wipe σ vs) (upd H T (.tup [.int (i : Nat), .str ⟨#[c]⟩])) fun σ2 H2 => wipe σ2 vs = wipe σ vs ∧ tt σ2 H2 fun b H3 =>
      if b = true then te σ2 H3 fun y H4 => ∃ acc, H4 D = some (.lst acc) ∧ acc.length < sizeLine ∧ Pv (i + 1) (upd H4 D (.lst (acc ++ [y]))) else Pv (i + 1) H3) (hd : ∀ H, Pv x.cps.size H → Qd H) :
    ∃ W : Nat → Nat → Hp → Prop, (∃ m, W 0 m (upd H1 D (.lst []))) ∧ ∀ i m H, W i m H →
      ((Ites x).stop i H ∧ Qd H) ∨ ((Ites x).go i H ∧ ∃ Nx : Hp → Prop, (∀ H', Nx H' → ∃ m', m' < m ∧ W (i + 1) m' H') ∧ ∀ v H', (Ites x).yld i H v H' → g v (wipe σ vs) H' fun σ2 H2 => wipe σ2 vs = wipe σ vs ∧ tt σ2 H2 fun b H3 =>
        if b = true then te σ2 H3 fun y H4 => ∃ acc, H4 D = some (.lst acc) ∧ acc.length < sizeLine ∧ Nx (upd H4 D (.lst (acc ++ [y]))) else Nx H3) := by
  refine ⟨fun i m H => m = x.cps.size - i ∧ i ≤ x.cps.size ∧ Pv i H, ⟨x.cps.size, by simp, Nat.zero_le _, h0⟩, ?_⟩
  rintro i m H ⟨rfl, hi, p⟩
  by_cases hlt : i < x.cps.size
  · refine .inr ⟨hlt, Pv (i + 1), fun H' p' => ⟨x.cps.size - (i + 1), by omega, rfl, hlt, p'⟩, fun v H' y => ?_⟩
    obtain ⟨T, c, rfl, hT, hc, rfl⟩ := y
    exact hs i c T H hc p hT
  · have e : i = x.cps.size := by omega
    subst e
    exact .inl ⟨rfl, hd H p⟩
theorem for_enumS {x : Str} {g : TG} {tb : TS} {D : Ends} {σ : L2.St} {H : Hp} (Pv : Nat → L2.St → Hp → Prop) (h0 : Pv 0 σ H)
    (hs : ∀ i c T σ H, x.cps[i]? = some c → Pv i σ H → H T = none → g (.ref T) σ (upd H T (.tup [.int (i : Nat), .str ⟨#[c]⟩])) fun σ2 H2 => tb { D with nx := Pv (i + 1), ct := Pv (i + 1), bk := D.nx } σ2 H2) (hd : ∀ σ H, Pv x.cps.size σ H → D.nx σ H) :
    ∃ W : Nat → Nat → L2.St → Hp → Prop, (∃ m, W 0 m σ H) ∧ ∀ i m σ H, W i m σ H →
      ((Ites x).stop i H ∧ D.nx σ H) ∨ ((Ites x).go i H ∧ ∃ N : L2.St → Hp → Prop, (∀ σ' H', N σ' H' → ∃ m', m' < m ∧ W (i + 1) m' σ' H') ∧ ∀ v H', (Ites x).yld i H v H' → g v σ H' fun σ2 H2 => tb { D with nx := N, ct := N, bk := D.nx } σ2 H2) := by
  refine ⟨fun i m σ H => m = x.cps.size - i ∧ i ≤ x.cps.size ∧ Pv i σ H, ⟨x.cps.size, by simp, Nat.zero_le _, h0⟩, ?_⟩
  rintro i m σ H ⟨rfl, hi, p⟩
  by_cases hlt : i < x.cps.size
  · refine .inr ⟨hlt, Pv (i + 1), fun σ' H' p' => ⟨x.cps.size - (i + 1), by omega, rfl, hlt, p'⟩, fun v H' y => ?_⟩
    obtain ⟨T, c, rfl, hT, hc, rfl⟩ := y
    exact hs i c T σ H hc p hT
  · have e : i = x.cps.size := by omega
    subst e
    exact .inl ⟨rfl, hd σ H p⟩
end G1
/-! for i, x in enumerate(tuple) -/
namespace G1
open PySem PySem.Spec PyProof.Rows L2
def enumObj (n : Addr) : Obj := { cls := .type "enumerate", data := .fields #[.none, .bool false, .ref n, rawInt 0, .none, .none] }
/-- enumerate(v) of what has an iterator -/
theorem meets_en {v : Value} {o : Obj} {Hh : Heap → Prop} (B : Begins v o Hh) : Meets (Builtin.«enumerate.__new__» ⟨[.type "enumerate", v], []⟩) (fun _ R s => Hh s.heap ∧
    R (.ok (.ret (.ref (s.heap.push o).objs.size))) { s with heap := (s.heap.push o).push (enumObj s.heap.objs.size) }) := by
  refine .of_wp fun pr ww AA RR s hyp => ?_
  obtain ⟨hp, gg, dd, tt, ss⟩ := s
  obtain ⟨h1, hyp⟩ := hyp
  have hsub := sub_enumerate
  have it : ∀ {A' : Around} {E' : Value → Shared → Prop} {Q' : Value → Shared → Prop}, Q' (.ref hp.objs.size) ⟨hp.push o, gg, dd, tt, ss⟩ → wpAny (model pr ww) A' (pyIter v) Q' E' ⟨hp, gg, dd, tt, ss⟩ := fun z => B.iter pr ww _ _ ⟨hp, gg, dd, tt, ss⟩ _ h1 z
  wp_walk using it
  refine wpAny_stack_any fun _ => wpAny_pure ?_
  split
  · rename_i cc _ _ _ _ _
    cases (cc == Value.type "enumerate") <;> (wp_walk using it; exact ⟨_, rfl, hyp⟩)
  · (wp_walk using it; exact ⟨_, rfl, hyp⟩)
theorem call_en {P : Program} {w : World} {A : Around} {E : Value → Shared → Prop} {s : Shared} {v : Value} {o : Obj} {Hh : Heap → Prop} {Q : Value → Shared → Prop} (B : Begins v o Hh) (h1 : Hh s.heap)
    (h : ∀ h', IsEnum h' (s.heap.objs.size + 1) s.heap.objs.size 0 .none → h'.get? s.heap.objs.size = some o → (∀ b x, s.heap.get? b = some x → h'.get? b = some x) → Q (.ref (s.heap.objs.size + 1)) { s with heap := h' }) :
    wpAny (model P w) A (call (.type "enumerate") [v]) Q E s := by
  refine callType_new F.called_enumerate (by decide) (F.typeCall_enumerate_1 _) (F.newCall_enumerate_1 _) (fun z => F.args_object_init_2 z _) F.entry_enumerate_new (meets_en B) ⟨h1, ?_⟩
  have z1 : (s.heap.push o).objs.size = s.heap.objs.size + 1 := Heap.size_push ..
  have e1 := Heap.get?_push_size (s.heap.push o) (o := enumObj s.heap.objs.size) rfl
  show _ ∧ _
  rw [z1]
  rw [z1] at e1
  exact ⟨⟨_, e1, rfl⟩, h _ e1 (Heap.get?_push_of_some _ (Heap.get?_push_size _ B.free)) fun b x z => Heap.get?_push_of_some _ (Heap.get?_push_of_some _ z)⟩
/-- the items of the tuple at a, each in a new pair with its place -/
def Iten (K : PySem.W.Frag) (a : Addr) : It :=
  ⟨fun i H => ∃ (xs : List V) (x : V), SqT K H a xs ∧ xs[i]? = some x, fun i H v H' => ∃ T x, v = .ref T ∧ H T = none ∧ H' = upd H T (.tup [.int (i : Nat), x]) ∧ ∀ xs, SqT K H a xs → xs[i]? = some x, fun i H => ∃ xs : List V, SqT K H a xs ∧ xs.length = i⟩
theorem turn_en {P : Program} {w : World} {K : PySem.W.Frag} {elts : List Expr} {kk : Nat} {tpos : Pos} (a e it : Addr) :
    Turn P w K (.Tuple elts kk tpos) (Iten K a) [e, it] e (fun i h => (∃ old, IsEnum h e it (0 + (i : Int)) old) ∧ h.IsTupleIter it a i ∧ e ≠ it ∧ e ≠ a ∧ a ≠ it) where
  mem := by simp
  obj := fun i h st b hb => by
    obtain ⟨⟨old, he⟩, ⟨o, ho, hc, hd⟩, _⟩ := st
    rcases (by simpa using hb : b = e ∨ b = it) with rfl | rfl
    · exact ⟨_, he, fun v z => nomatch z⟩
    · refine ⟨o, ho, fun v z => ?_⟩
      rw [hd] at z
      cases z
  keep := fun i h h' st k => by
    obtain ⟨⟨old, he⟩, hi, r⟩ := st
    exact ⟨⟨old, k e (by simp) _ he⟩, hi.at fun o q => k it (by simp) o q, r⟩
  item := by
    intro X hX hW hKK calm i pins s σ H E I away st hg
    subst hX hW hKK
    obtain ⟨he, hit, n1, n2, n3⟩ := st
    obtain ⟨xs, x, hq, hx⟩ := hg
    obtain ⟨its, rv, p, _⟩ := I.tuple hq
    obtain ⟨u, hu, ru⟩ := rv.get hx
    have D := Draws.tuple (prog := X.prog) (w := X.w) (A := X.A.in1) (I.ok.hd calm) it a n3 its.toArray
    have W := GoesN.enumFrom (elts := elts) (x1 := kk) (pos := tpos) 0 D e n1 (by simp [n1, n2]) (by simp)
    have il : i < its.toArray.size := by
      have := (List.getElem?_eq_some_iff.mp hu).1
      simpa using this
    refine W.goes i s _ E il ⟨he, hit, p⟩ fun v h' tk hY st' hk htk => ?_
    obtain ⟨T, t', y, ev, hT, hy, hO⟩ := hY
    have ey : y = u := by
      rw [List.getElem?_toArray, hu] at hy
      exact (Option.some.inj hy).symm
    subst ev ey
    obtain ⟨o, ho, hoc, n, hod⟩ := hO
    have new : ObjOk X.prog X.w (upd H T (.tup [.int (i : Nat), x])) h' T (.tup [.int (i : Nat), x]) :=
      ⟨by show 2 ≤ sizeLine; decide, [.int (0 + (i : Int)) t', y], .cons ⟨t', by rw [Int.zero_add]⟩ (.cons ru .nil), ⟨o, ho, hoc, n, hod⟩⟩
    have I1 : Inv X pins σ (upd H T (.tup [.int (i : Nat), x])) { s with heap := h', toks := tk } := I.turnedNew (ch := [e, it]) hk away hT new
    refine ⟨.ref T, _, I1, rfl, ⟨T, x, rfl, I.hok.fresh hT, rfl, fun ys hy => by rw [I.tuple_inj hy hq]; exact hx⟩, ⟨st'.1, st'.2.1, n1, n2, n3⟩, fun b hb => ?_⟩
    have hb' : b < s.heap.objs.size := by
      obtain ⟨old, he⟩ := he
      obtain ⟨o2, ho2, _⟩ := hit
      rcases (by simpa using hb : b = e ∨ b = it) with rfl | rfl
      · exact Heap.lt_size he
      · exact Heap.lt_size ho2
    rw [upd_ne (Nat.ne_of_lt (Nat.lt_of_lt_of_le hb' hT))]
    exact (away b hb).1
  done := by
    intro X hX hW hKK calm i pins s σ H E I away st hg
    subst hX hW hKK
    obtain ⟨he, hit, n1, n2, n3⟩ := st
    obtain ⟨xs, hq, hl⟩ := hg
    obtain ⟨its, rv, p, _⟩ := I.tuple hq
    have l2 := rv.length
    have D := Draws.tuple (prog := X.prog) (w := X.w) (A := X.A.in1) (I.ok.hd calm) it a n3 its.toArray
    have W := GoesN.enumFrom (elts := elts) (x1 := kk) (pos := tpos) 0 D e n1 (by simp [n1, n2]) (by simp)
    have ei : i = its.toArray.size := by
      rw [List.size_toArray]
      omega
    rw [ei] at he hit
    refine W.stops s _ E ⟨he, hit, p⟩ fun h' tk hk htk => ?_
    exact I.turnedL (t' := tk) (ch := [e, it]) hk away
  self := fun A i s Q E st q => wpAny_pyIter_enum st.1.choose_spec q
def iEnumT (K : PySem.W.Frag) (ta : TA) : TI := fun σ H R => ta σ H fun vs H1 => ∃ a xs, vs = [.ref a] ∧ SqT K H1 a xs ∧ R (Iten K a) H1
theorem pi_enumT {X : Cx} {e : Expr} {ta : TA} {p pos tpos : Pos} {elts : List Expr} {kk : Nat} (hg : Gl X "enumerate") (hm : X.mg "enumerate" = none) (ha : PA X [e] ta) (hs : starEach [e] X.env = [(false, eval e X.env)] := by rfl) :
    PI X (.Tuple elts kk tpos) (.Call (.Name "enumerate" p) [e] [] pos) (iEnumT X.K ta) := by
  refine ⟨fun pn s σ H R Iv told => Call_ (ld_blt Iv hg hm boot_enumerate (PyProof.Rows.callWith_type1 (thn (ha.run pos pn s σ H _ Iv told) ?_) hs rfl))⟩
  rintro us s1 ⟨vs, H1, I1, r1, a, xs, rfl, hq, q⟩
  cases r1 with
  | cons r rr =>
    cases rr
    cases r
    obtain ⟨its, rv, p', _⟩ := I1.tuple hq
    have la : a < s1.heap.objs.size := by
      obtain ⟨o, ho, _⟩ := p'
      exact Heap.lt_size ho
    refine call_en (begins_tuple a its.toArray) p' fun h' he hit hk => wpAny_pyIter_enum he ?_
    refine ⟨s1.heap.objs.size + 1, [s1.heap.objs.size + 1, s1.heap.objs.size], _, _, H1, rfl, I1.kept (t' := s1.toks) hk, turn_en a (s1.heap.objs.size + 1) s1.heap.objs.size, ⟨⟨.none, he⟩, ⟨_, hit, rfl, rfl⟩, Nat.succ_ne_self _, ?_, ?_⟩, fun b hb => ?_, q⟩
    · exact fun z => absurd la (by rw [← z]; exact Nat.not_lt.mpr (Nat.le_succ _))
    · exact Nat.ne_of_lt la
    · have up : s1.heap.objs.size ≤ b := by
        rcases (by simpa using hb : b = s1.heap.objs.size + 1 ∨ b = s1.heap.objs.size) with rfl | rfl
        · exact Nat.le_succ _
        · exact Nat.le_refl _
      exact I1.fpOk up (I1.hok.fresh up)
theorem lc_enumT {K : PySem.W.Frag} {a : Addr} {xs : List V} {g : TG} {tt : TT} {te : TE} {vs : List Nat} {σ : L2.St} {H1 : Hp} {D : Addr} {Qd : Hp → Prop} (Pv : Nat → Hp → Prop) (h0 : Pv 0 (upd H1 D (.lst [])))
    (hq : ∀ i H, Pv i H → SqT K H a xs)
    (hs : ∀ i x T H, xs[i]? = some x → Pv i H → H T = none → g (.ref T) (wipe σ vs) (upd H T (.tup [.int (i : Nat), x])) fun σ2 H2 => wipe σ2 vs = wipe σ vs ∧ tt σ2 H2 fun b H3 =>
      if b = true then te σ2 H3 fun y H4 => ∃ acc, H4 D = some (.lst acc) ∧ acc.length < sizeLine ∧ Pv (i + 1) (upd H4 D (.lst (acc ++ [y]))) else Pv (i + 1) H3) (hd : ∀ H, Pv xs.length H → Qd H) :
    ∃ W : Nat → Nat → Hp → Prop, (∃ m, W 0 m (upd H1 D (.lst []))) ∧ ∀ i m H, W i m H →
      ((Iten K a).stop i H ∧ Qd H) ∨ ((Iten K a).go i H ∧ ∃ Nx : Hp → Prop, (∀ H', Nx H' → ∃ m', m' < m ∧ W (i + 1) m' H') ∧ ∀ v H', (Iten K a).yld i H v H' → g v (wipe σ vs) H' fun σ2 H2 => wipe σ2 vs = wipe σ vs ∧ tt σ2 H2 fun b H3 =>
        if b = true then te σ2 H3 fun y H4 => ∃ acc, H4 D = some (.lst acc) ∧ acc.length < sizeLine ∧ Nx (upd H4 D (.lst (acc ++ [y]))) else Nx H3) := by
  refine ⟨fun i m H => m = xs.length - i ∧ i ≤ xs.length ∧ Pv i H, ⟨xs.length, by simp, Nat.zero_le _, h0⟩, ?_⟩
  rintro i m H ⟨rfl, hi, p⟩
  have sq := hq i H p
  by_cases hlt : i < xs.length
  · refine .inr ⟨⟨xs, xs[i], sq, List.getElem?_eq_getElem hlt⟩, Pv (i + 1), fun H' p' => ⟨xs.length - (i + 1), by omega, rfl, hlt, p'⟩, fun v H' y => ?_⟩
    obtain ⟨T, x, rfl, hT, rfl, hx⟩ := y
    exact hs i x T H (hx xs sq) p hT
  · have e : i = xs.length := by omega
    subst e
    exact .inl ⟨⟨xs, sq, rfl⟩, hd H p⟩
end G1
/-! repr of None and of numbers -/
namespace G1
open PySem PySem.Spec PyProof.Rows L2
def shO0 : V → Str
  | .int i => Str.ofString (toString i)
  | _ => "None"
/-- the text of None or of a number -/
@[irreducible] def shO (v : V) : Str := shO0 v
/-- None, or a number that is not too great -/
def Leaf (v : V) : Prop := v = .non ∨ ∃ i : Int, v = .int i ∧ i.natAbs.log2 < 1920
theorem leaf_non : Leaf .non := .inl rfl
theorem leaf_int {i : Int} (h0 : 0 ≤ i) (h1 : i < 2 ^ 1000) : Leaf (.int i) := by
  refine .inr ⟨i, rfl, ?_⟩
  obtain ⟨n, rfl⟩ : ∃ n : Nat, i = (n : Int) := ⟨i.toNat, by omega⟩
  have hn : n < 2 ^ 1000 := by
    have e : ((2 : Int) ^ 1000) = ((2 ^ 1000 : Nat) : Int) := by norm_cast
    rw [e] at h1
    exact Int.ofNat_lt.mp h1
  by_cases z : n = 0
  · subst z
    decide
  · have : n.log2 < 1000 := (Nat.log2_lt z).mpr hn
    show n.log2 < 1920
    omega
section
variable {X : Cx}
theorem call_reprO : CallR X (.builtin "repr") (fun xs H Q => ∃ v : V, xs = [v] ∧ Leaf v ∧ Q (.str (shO v)) H) := by
  intro pn s σ H xs us Q I r told
  obtain ⟨v, rfl, lf, q⟩ := told
  obtain ⟨u, rfl, ru⟩ := vals1 r
  unfold shO at q
  rcases lf with rfl | ⟨i, rfl, hi⟩
  · obtain rfl : u = Value.none := ru
    exact PySem.P.repr_of_none ⟨.str _, H, I.tok _, ⟨_, rfl⟩, q⟩
  · obtain ⟨t, rfl⟩ := ru
    exact PySem.P.repr_of_int hi ⟨.str _, H, I.tok _, ⟨_, rfl⟩, q⟩
end
end G1
/-! repr of lists of numbers and None -/
namespace G1
open PySem PySem.Spec PyProof.Rows L2
/-- None, or a number below 10 ** 30 -/
def Num (d : PyData) : Prop := d = .none ∨ ∃ i : Int, d = .int i ∧ 0 ≤ i ∧ i < 10 ^ 30
theorem num_weight {d : PyData} (h : Num d) : d.weight ≤ 101 := by
  rcases h with rfl | ⟨i, rfl, h0, h1⟩
  · exact Nat.zero_le _
  · show (if i == 0 then 0 else i.natAbs.log2 + 1) ≤ 101
    split
    · omega
    · obtain ⟨n, rfl⟩ : ∃ n : Nat, i = (n : Int) := ⟨i.toNat, by omega⟩
      rename_i hz
      have z : n ≠ 0 := fun e => by rw [e] at hz; exact hz rfl
      have hn : n < 2 ^ 100 := by
        have e : (10 : Int) ^ 30 < ((2 ^ 100 : Nat) : Int) := by decide
        omega
      have : n.log2 < 100 := (Nat.log2_lt z).mpr hn
      show n.log2 + 1 ≤ 101
      omega
theorem num_short {d : PyData} (h : Num d) : d.leavesShort 40 = true := by
  rcases h with rfl | ⟨i, rfl, h0, h1⟩
  · rfl
  · show decide ((PyData.shown (.int i)).length ≤ 40) = true
    rw [decide_eq_true_eq]
    have e := PyProof.Rows.toString_length_le h0 (k := 30) (by decide) h1
    have e2 : (PyData.shown (.int i)).length = (Str.ofString (toString i)).length := rfl
    omega
theorem log_ok {i : Int} (h0 : 0 ≤ i) (h1 : i < 10 ^ 30) : i.natAbs.log2 < 1920 := by
  rcases leaf_int h0 (Int.lt_trans h1 (by decide)) with e | ⟨j, e, h⟩
  · cases e
  · obtain rfl := V.int.inj e
    exact h
theorem num_all : ∀ ds : List PyData, (∀ d ∈ ds, Num d) → PyData.showableAll ds = true ∧ PyData.hasDictAll ds = false ∧ PyData.depthAll ds ≤ 20 ∧ PyData.leavesShortAll 40 ds = true ∧ PyData.weightAll ds ≤ 102 * ds.length
  | [], _ => by simp [PyData.showableAll, PyData.hasDictAll, PyData.depthAll, PyData.leavesShortAll, PyData.weightAll]
  | d :: ds, h => by
    obtain ⟨h1, h2, h3, h4, h5⟩ := num_all ds fun e he => h e (List.mem_cons_of_mem _ he)
    have n := h d List.mem_cons_self
    have nw := num_weight n
    have ns := num_short n
    refine ⟨?_, ?_, ?_, ?_, ?_⟩
    · rcases n with rfl | ⟨i, rfl, i0, i1⟩
      · simp [PyData.showableAll, PyData.showable, h1]
      · simp [PyData.showableAll, PyData.showable, h1, log_ok i0 i1]
    · rcases n with rfl | ⟨i, rfl, _⟩ <;> simp [PyData.hasDictAll, PyData.hasDict, h2]
    · rcases n with rfl | ⟨i, rfl, _⟩ <;> (simp only [PyData.depthAll, PyData.depth]; omega)
    · simp [PyData.leavesShortAll, h4, ns]
    · simp only [PyData.weightAll, List.length_cons]
      omega
theorem repr_nums {K : PySem.W.Frag} {H : Hp} {R : PyData → Prop} {a : Addr} {xs : List V} (ds : List PyData) (e : H a = some (.lst xs)) (hd : DpAll K H xs ds) (hs : ∀ d ∈ ds, Num d) (hl : ds.length ≤ 40) (q : R (.list ds)) :
    ∃ (a' : Addr) (d' : PyData), [V.ref a] = [V.ref a'] ∧ Dp K H (.ref a') d' ∧ d'.showable = true ∧ d'.hasDict = false ∧ d'.depth ≤ 60 ∧ d'.shown.length ≤ sizeLine ∧ R d' := by
  obtain ⟨h1, h2, h3, h4, h5⟩ := num_all ds hs
  refine ⟨a, .list ds, rfl, .lst (.inl (.inl e)) hd, ?_, ?_, ?_, ?_, q⟩
  · simp only [PyData.showable]; exact h1
  · simp only [PyData.hasDict]; exact h2
  · simp only [PyData.depth]; omega
  · have s := PyData.shown_le 40 (by decide) (.list ds) (by simp only [PyData.leavesShort]; exact h4)
    simp only [PyData.weight] at s
    have : 102 * ds.length ≤ 102 * 40 := Nat.mul_le_mul_left _ hl
    exact Nat.le_trans s (Nat.le_trans (by omega : 42 * PyData.weightAll ds + 40 ≤ 200000) (by decide))
end G1
/-! draws from a dict: two lists, a sum and a count under a name of its own -/
namespace G1
open PySem PySem.Spec PyProof.Rows L2
/-- the dict's pairs -/
def dkv (m : Str) (g c : Addr) (W k : Int) : List (Key × V) := [(Sum.inr ("great" : Str), .ref g), (Sum.inr ("cells" : Str), .ref c), (Sum.inr ("whole" : Str), .int W), (Sum.inr m, .int k)]
/-- the deck at w, its great numbers at g -/
def DkAt (m : Str) (w g : Addr) (H : Hp) : Prop := ∃ (c : Addr) (gs cs : List Int) (W k : Int), w ≠ g ∧ c ≠ g ∧ c ≠ w ∧ H w = some (.dK (dkv m g c W k)) ∧
  H g = some (.lst (gs.map V.int)) ∧ H c = some (.lst (cs.map V.int)) ∧ 0 < cs.length ∧ gs.length ≤ 1000 ∧ cs.length ≤ 1000
section
variable {m : Str} {w g p : Addr} {H H' : Hp} {o : HO}
theorem DkAt.same (D : DkAt m w g H) (s : Same H H') : DkAt m w g H' := by
  obtain ⟨c, gs, cs, W, k, h1, h2, h3, h4, h5, h6, h7⟩ := D
  exact ⟨c, gs, cs, W, k, h1, h2, h3, s _ _ h4, s _ _ h5, s _ _ h6, h7⟩
theorem DkAt.fresh (D : DkAt m w g H) (h : H p = none) : p ≠ w ∧ p ≠ g := by
  obtain ⟨c, gs, cs, W, k, h1, h2, h3, h4, h5, h6, h7⟩ := D
  exact ⟨(ne_of_none h4 h).symm, (ne_of_none h5 h).symm⟩
theorem new_ofK (D : DkAt m w g H) (hp : H p = none) (e : upd H p o = H') : Same H H' ∧ DkAt m w g H' ∧ At w g H' p o := by
  subst e
  exact ⟨same_new hp, D.same (same_new hp), (D.fresh hp).1, (D.fresh hp).2, upd_same⟩
theorem DkAt.tup {a : Addr} {xs : List V} (D : DkAt m w g H) (h : H a = some (.tup xs)) : At w g H a (.tup xs) := by
  obtain ⟨c, gs, cs, W, k, h1, h2, h3, h4, h5, h6, h7⟩ := D
  exact ⟨ne_of h h4 (by intro z; cases z), ne_of h h5 (by intro z; cases z), h⟩
end
theorem dk_get {m : Str} {g c : Addr} {W k : Int} (hm : Sum.inr m ≠ (Sum.inr ("great" : Str) : Key) ∧ Sum.inr m ≠ (Sum.inr ("cells" : Str) : Key) ∧ Sum.inr m ≠ (Sum.inr ("whole" : Str) : Key)) :
    valV (dkv m g c W k) (Sum.inr ("great" : Str)) = some (.ref g) ∧ valV (dkv m g c W k) (Sum.inr ("cells" : Str)) = some (.ref c) ∧ valV (dkv m g c W k) (Sum.inr ("whole" : Str)) = some (.int W) ∧ valV (dkv m g c W k) (Sum.inr m) = some (.int k) := by
  have e1 : (Sum.inr ("great" : Str) : Key) ≠ Sum.inr ("cells" : Str) := by decide
  have e2 : (Sum.inr ("great" : Str) : Key) ≠ Sum.inr ("whole" : Str) := by decide
  have e3 : (Sum.inr ("cells" : Str) : Key) ≠ Sum.inr ("whole" : Str) := by decide
  refine ⟨?_, ?_, ?_, ?_⟩
  · simp [dkv, valV]
  · simp [dkv, valV, e1]
  · simp [dkv, valV, e2, e3]
  · simp [dkv, valV, hm.1.symm, hm.2.1.symm, hm.2.2.symm]
end G1
/-! draws from a dict, the list of cells named; objects apart from all of it -/
namespace G1
open PySem PySem.Spec PyProof.Rows L2
def DkC (m : Str) (w g c : Addr) (H : Hp) : Prop := ∃ (gs cs : List Int) (W k : Int), w ≠ g ∧ c ≠ g ∧ c ≠ w ∧ H w = some (.dK (dkv m g c W k)) ∧
  H g = some (.lst (gs.map V.int)) ∧ H c = some (.lst (cs.map V.int)) ∧ 0 < cs.length ∧ gs.length ≤ 1000 ∧ cs.length ≤ 1000
/-- o stands at a, apart from the deck -/
structure Ac (w g c : Addr) (H : Hp) (a : Addr) (o : HO) : Prop where
  nw : a ≠ w
  ng : a ≠ g
  nc : a ≠ c
  at_ : H a = some o
theorem Ac.go {w g c : Addr} {H H' : Hp} {a : Addr} {o : HO} (x : Ac w g c H a o) (s : Go w g H H') : Ac w g c H' a o := ⟨x.nw, x.ng, x.nc, s a o x.nw x.ng x.at_⟩
theorem Ac.same {w g c : Addr} {H H' : Hp} {a : Addr} {o : HO} (x : Ac w g c H a o) (s : Same H H') : Ac w g c H' a o := ⟨x.nw, x.ng, x.nc, s a o x.at_⟩
section
variable {m : Str} {w g c p : Addr} {H H' : Hp} {o : HO}
theorem DkC.same (D : DkC m w g c H) (s : Same H H') : DkC m w g c H' := by
  obtain ⟨gs, cs, W, k, h1, h2, h3, h4, h5, h6, h7⟩ := D
  exact ⟨gs, cs, W, k, h1, h2, h3, s _ _ h4, s _ _ h5, s _ _ h6, h7⟩
theorem DkC.fresh (D : DkC m w g c H) (h : H p = none) : p ≠ w ∧ p ≠ g ∧ p ≠ c := by
  obtain ⟨gs, cs, W, k, h1, h2, h3, h4, h5, h6, h7⟩ := D
  exact ⟨(ne_of_none h4 h).symm, (ne_of_none h5 h).symm, (ne_of_none h6 h).symm⟩
theorem new_ofC (D : DkC m w g c H) (hp : H p = none) (e : upd H p o = H') : Same H H' ∧ DkC m w g c H' ∧ Ac w g c H' p o := by
  subst e
  exact ⟨same_new hp, D.same (same_new hp), (D.fresh hp).1, (D.fresh hp).2.1, (D.fresh hp).2.2, upd_same⟩
theorem DkC.tup {a : Addr} {xs : List V} (D : DkC m w g c H) (h : H a = some (.tup xs)) : Ac w g c H a (.tup xs) := by
  obtain ⟨gs, cs, W, k, h1, h2, h3, h4, h5, h6, h7⟩ := D
  exact ⟨ne_of h h4 (by intro z; cases z), ne_of h h5 (by intro z; cases z), ne_of h h6 (by intro z; cases z), h⟩
/-- what stands apart is written -/
theorem DkC.upd {u : HO} (D : DkC m w g c H) (n1 : p ≠ w) (n2 : p ≠ g) (n3 : p ≠ c) : DkC m w g c (L2.upd H p u) := by
  obtain ⟨gs, cs, W, k, h1, h2, h3, h4, h5, h6, h7⟩ := D
  exact ⟨gs, cs, W, k, h1, h2, h3, (upd_ne n1.symm).trans h4, (upd_ne n2.symm).trans h5, (upd_ne n3.symm).trans h6, h7⟩
theorem Ac.upd {a : Addr} {u : HO} (x : Ac w g c H a o) (n : a ≠ p) : Ac w g c (L2.upd H p u) a o := ⟨x.nw, x.ng, x.nc, (upd_ne n).trans x.at_⟩
theorem Ac.set {u : HO} (x : Ac w g c H p o) : Ac w g c (L2.upd H p u) p u := ⟨x.nw, x.ng, x.nc, upd_same⟩
theorem go_upd' {D : Addr} {u : HO} {H1 : Hp} (S : Go w g H H1) (h : H D = none) : Go w g H (L2.upd H1 D u) := fun x v h1 h2 e => by
  rw [upd_ne (ne_of_none e h)]
  exact S x v h1 h2 e
end
end G1
/-! tuple[::-1] -/
namespace G1
open PySem PySem.Spec PyProof.Rows L2 HT
section
variable {prog : Program} {w : World} {A : Around} {E : Value → Shared → Prop} {s : Shared}
theorem adjust_rev (n : Nat) : Builtin.Slice.sliceAdjust none none (-1) (n : Int) = ((n : Int) - 1, -1) := by
  unfold Builtin.Slice.sliceAdjust
  simp
theorem places_rev (n : Nat) : Builtin.Slice.slicePlaces ((n : Int) - 1) (-1) (-1) = n := by
  unfold Builtin.Slice.slicePlaces
  have h1 : ¬ ((-1 : Int) > 0) := by omega
  simp only [h1, if_false]
  rw [show (- -1 : Int) = 1 by decide, Int.ediv_one]
  split <;> omega
theorem sliceApplied_rev {sl : Addr} {vs : Value} {n : Nat} {Q : Int × Int × Nat → Shared → Prop} (hs : s.heap.IsSliceOf sl .none .none vs) (ps : IsPart vs (some (-1)))
    (h : Q ((n : Int) - 1, -1, n) s) : wpAny (model prog w) A (Builtin.Slice.sliceApplied (.ref sl) (pure (n : Int))) Q E s := by
  obtain ⟨os, hos, hcs, hds⟩ := id hs
  unfold Builtin.Slice.sliceApplied Builtin.Slice.sliceFields
  refine wpAny_bind (wpAny_bind (wpAny_field hos hds (x := .none) rfl (wpAny_bind (wpAny_field hos hds (x := .none) rfl (wpAny_bind (wpAny_field hos hds (x := vs) rfl (wpAny_pure ?_)))))))
  refine wpAny_bind (slicePart_ ps ?_)
  show wpAny _ _ (if ((-1 : Int) == 0) = true then _ else _) _ _ s
  rw [if_neg (by decide)]
  refine wpAny_bind (slicePart_ .none (wpAny_bind (slicePart_ .none (wpAny_bind (wpAny_pure ?_)))))
  show wpAny _ _ (match Builtin.Slice.sliceAdjust none none (-1) (n : Int) with | (lo, hi) => pure (lo, (-1 : Int), Builtin.Slice.slicePlaces lo hi (-1))) _ _ s
  rw [adjust_rev n]
  show wpAny _ _ (pure ((n : Int) - 1, (-1 : Int), Builtin.Slice.slicePlaces ((n : Int) - 1) (-1) (-1))) _ _ s
  rw [places_rev]
  exact wpAny_pure h
theorem pick_rev (xs : Array Value) : ((List.range xs.size).filterMap fun (m : Nat) => xs[((xs.size : Int) - 1 + (m : Int) * -1).toNat]?).toArray = xs.toList.reverse.toArray := by
  have e : (fun (m : Nat) => xs[((xs.size : Int) - 1 + (m : Int) * -1).toNat]?) = (xs[·]?) ∘ fun m => xs.size - 1 - m := by
    funext m
    have : ((xs.size : Int) - 1 + (m : Int) * -1).toNat = xs.size - 1 - m := by omega
    rw [this]
    rfl
  rw [e, ← List.filterMap_map, PySem.W.krv_range, List.filterMap_reverse, PySem.W.krv_all]
theorem getItem_tuple_rev {t sl : Addr} {items : Array Value} {vs : Value} {Q : Value → Shared → Prop} (ht : IsTup s.heap t items) (hs : s.heap.IsSliceOf sl .none .none vs) (ps : IsPart vs (some (-1)))
    (h : Q (.ref s.heap.objs.size) { s with heap := s.heap.push { cls := .type "tuple", data := .seq items.toList.reverse.toArray } })
    (hsz : items.size ≤ sizeLine) : wpAny (model prog w) A (getItem (.ref t) (.ref sl)) Q E s := by
  have htake : sizeOk (.seq items.toList.reverse.toArray) := by
    show items.toList.reverse.toArray.size ≤ sizeLine
    rw [List.size_toArray, List.length_reverse, Array.length_toList]
    exact hsz
  obtain ⟨os, hos, hcs, hds⟩ := id hs
  have hTs : s.TypeIs (.ref sl) "slice" := ⟨os, hos, hcs⟩
  unfold getItem
  try with_reducible refine wpAny_holding ?_
  first | refine wpAny_bind (wpAny_pure ?_) | skip
  refine wpAny_bind (wpAny_sequenceKey ht.typeIs (by decide) ?_)
  refine wpAny_bind (wpAny_callSpecial?_slot (name := Str.ofString "__getitem__") ht.typeIs PyProof.Rows.slot_tuple_getitem
    (wpAny_call_entry PyProof.Rows.slot_tuple_getitem ht.typeIs entry_tuple_getitem ?_ (args_tuple_getitem _ _)))
  show wpAny _ _ (Builtin.Tuple.tupleItemsOf (.ref t) >>= _) _ _ s
  refine wpAny_bind (tupleItemsOf_ ht ?_)
  refine wpAny_bind (wpAny_typeOf hTs ?_)
  rw [if_pos (by decide)]
  refine wpAny_bind (sliceApplied_rev hs ps ?_)
  have hno : ¬ ((((items.size : Int) - 1) == 0 && (-1 : Int) == 1 && items.size == items.size) = true) := by
    intro q
    rw [Bool.and_eq_true, Bool.and_eq_true] at q
    exact absurd q.1.2 (by decide)
  show wpAny _ _ (if (((items.size : Int) - 1) == 0 && (-1 : Int) == 1 && items.size == items.size) = true then _ else _) _ _ s
  rw [if_neg hno, pick_rev]
  first
    | exact wpAny_bind (m := Builtin.Tuple.tupleExact _) (wpAny_newObj_type (wpAny_pure ⟨_, rfl, wpAny_pure h⟩) htake)
    | exact wpAny_bind (m := Builtin.Tuple.tupleExact _) (wpAny_newObj_type (wpAny_bind (wpAny_pure (wpAny_pure ⟨_, rfl, wpAny_pure h⟩))) htake)
    | exact wpAny_bind (wpAny_bind (m := Builtin.Tuple.tupleExact _) (wpAny_newObj_type (wpAny_pure (wpAny_pure ⟨_, rfl, wpAny_pure h⟩)) htake))
    | exact wpAny_bind (wpAny_bind (m := Builtin.Tuple.tupleExact _) (wpAny_newObj_type (wpAny_pure ⟨_, rfl, wpAny_pure h⟩) htake))
end
section
variable {X : Cx}
def tRevT (K : PySem.W.Frag) (te : TE) : TE := fun σ H Q => te σ H fun x H1 => ∃ a xs, x = .ref a ∧ SqT K H1 a xs ∧ ∀ p, H1 p = none → Q (.ref p) (upd H1 p (.tup xs.reverse))
theorem pe_revT {e : Expr} {te : TE} {k : Nat} {p1 p2 p3 pos : Pos} (he : PE X e te) : PE X (.Subscript e (.Slice none none (some (.UnaryOp .USub (.Constant (.int 1) k p1) p2)) p3) pos) (tRevT X.K te) := by
  refine ⟨fun pins s σ H Q I h => ?_⟩
  refine Subscript_ (thn (he.run pins s σ H _ I h) fun v s1 ⟨x, H1, I1, r1, q1⟩ => ?_)
  obtain ⟨a, xs, ex, hx, q⟩ := q1
  subst ex
  cases r1
  have hst : PO X (some (.UnaryOp .USub (.Constant (.int 1) k p1) p2)) (tPart (tUn (rU fun i => .int (-i)) (tC (.int 1)))) := po_some (pe_un un_neg pe_int)
  refine wpAny_Slice ?_
  rw [evalPart_none]
  refine wpAny_pure (wpAny_pure ?_)
  refine thn (hst.run pins s1 σ H1 (fun o H4 => o = some (-1) ∧ H4 = H1) I1 ⟨1, rfl, -1, rfl, rfl, rfl⟩) fun vs s4 ⟨o, H4, I4, ps, eo, e4⟩ => ?_
  subst eo e4
  have I5 : Inv X pins σ H4 { s4 with heap := s4.heap.push { cls := .type "slice", data := .fields #[.none, .none, vs] } } := I4.kept (t' := s4.toks) fun b ob q => Heap.get?_push_of_some _ q
  obtain ⟨its, r, ht, hz⟩ := I5.tuple hx
  have hlen := r.length
  show wpAny (model X.prog X.w) X.A (subscriptTail e (.Slice none none (some (.UnaryOp .USub (.Constant (.int 1) k p1) p2)) p3) (.ref a) (.ref s4.heap.objs.size)) (EP X pins σ Q) X.xe { s4 with heap := s4.heap.push { cls := .type "slice", data := .fields #[.none, .none, vs] } }
  refine tail_any (ops := [.ref a, .ref s4.heap.objs.size]) ht.typeIs (PyProof.Rows.slot_tuple_getitem.lookup) ?_ (by with_unfolding_all rfl)
  refine getItem_tuple_rev ht (Heap.IsSliceOf.new _ .none .none vs) ps ?_ (by rw [List.size_toArray]; omega)
  refine ⟨.ref _, _, I5.laid (t' := s4.toks) (o := .tup xs.reverse) (fun b ob q => Heap.get?_push_of_some _ q) (Nat.le_refl _) ?_, rfl, q _ (I5.hok.fresh (Nat.le_refl _))⟩
  exact ⟨by rw [List.length_reverse]; exact hz, _, r.reverse, IsTup.new _ _⟩
end
end G1
/-! tuple * n of any n from 1 on -/
namespace G1
open PySem PySem.Spec PyProof.Rows L2
theorem tuple_mul1 (l : Addr) (items : Array Value) (n : Nat) (dd : Option Addr) (sl : Array (Option Value)) (u : Tok) :
    Meets (Builtin.«tuple.__mul__» ⟨[.ref l, .int 1 u], []⟩) (fun _ R s => s.heap.get? l = some { cls := .type "tuple", dict := dd, data := .seq items n, slots := sl } ∧
      R (.ok (.ret (Value.ref l))) s) :=
  .of_wp fun prog w A R s h => by
    obtain ⟨hp, g, d, tk, os⟩ := s
    obtain ⟨hl, h⟩ := h
    have f1 := AutoSeq1.idx_int
    have c0 : (decide ((1 : Int) < -(2 ^ 63)) || decide ((1 : Int) ≥ 2 ^ 63)) = false := by decide
    have c1 : (items.isEmpty || (1 : Int) == 1) = true := by simp
    wp_walk using wpAny_loadPart' hl
    repeat (first
      | (refine wpAny_ite_false (decide_eq_false (by rw [c0]; exact Bool.false_ne_true)) ?_; wp_walk using wpAny_loadPart' hl)
      | (refine wpAny_ite_true (decide_eq_true c1) ?_; wp_walk using wpAny_loadPart' hl))
    exact ⟨_, rfl, h⟩
def rRepA (K : PySem.W.Frag) : R2 := fun x y H Q => ∃ l k xs, x = .ref l ∧ y = .int k ∧ SqT K H l xs ∧ xs ≠ [] ∧ 1 ≤ k ∧ k ≤ 1000000 ∧ k.toNat * xs.length ≤ 1000000 ∧ (k = 1 → Q (.ref l) H) ∧ (k ≠ 1 → ∀ p, H p = none → Q (.ref p) (upd H p (.tup (List.replicate k.toNat xs).flatten)))
section
variable {X : Cx}
theorem op_repA : OpR X (binaryOp .Mult) (rRepA X.K) := by
  intro pins s σ H x y v u Q I rx ry h
  obtain ⟨l, k, xs, rfl, rfl, hT, hne, h1, h2, hz, q1, q2⟩ := h
  cases rx
  obtain ⟨t, rfl⟩ := ry
  obtain ⟨its, r, ⟨⟨cls, dd, data, sl⟩, ho, hc, n, hd⟩, hs⟩ := I.tuple hT
  simp only at hc hd
  subst hc hd
  have hle : its.length = xs.length := r.length.symm
  have hn : its ≠ [] := fun e => hne (by
    rw [e] at hle
    exact List.eq_nil_of_length_eq_zero hle.symm)
  have hi : its.toArray.isEmpty = false := by
    cases its with
    | nil => exact absurd rfl hn
    | cons a b => rfl
  have hsz0 : its.toArray.size = xs.length := by rw [List.size_toArray, hle]
  by_cases k1 : k = 1
  · subst k1
    refine wpAny_binaryOp_repeat_ref (T := "tuple") (U := "int") (by decide) ⟨_, ho, rfl⟩ (fun s' => typeIs_int s' 1 t) noFill_tuple_mul F.fills_int_mul F.slot_int_rmul repeat_tuple F.slot_int_index.lookup
      (call_meets F.slot_int_rmul (typeIs_int s 1 t) F.entry_int_rmul (F.args_int_rmul_2 _ _) (int_rmul_tuple 1 t l its.toArray n dd sl)
        ⟨ho, rfl, ⟨_, ho, rfl⟩, call_meets F.slot_tuple_mul ⟨_, ho, rfl⟩ F.entry_tuple_mul (F.args_tuple_mul_2 _ _) (tuple_mul1 l its.toArray n dd sl t) ⟨ho, ?_⟩⟩)
    exact ⟨.ref l, H, I, rfl, q1 rfl⟩
  have hm : ((its.toArray.size : Nat) : Int) * k ≤ 1000000 := by
    rw [hsz0]
    have : ((k.toNat * xs.length : Nat) : Int) = ((xs.length : Nat) : Int) * k := by
      rw [Int.natCast_mul, Int.toNat_of_nonneg (by omega), Int.mul_comm]
    omega
  have flen : (List.replicate k.toNat its).flatten.length ≤ sizeLine := by
    rw [PyProof.Rows.lm_len_rep_flat, hle, sizeLine_eq]
    omega
  have c0 : (decide (k < -(2 ^ 63)) || decide (k ≥ 2 ^ 63)) = false := by
    rw [decide_eq_false (by omega), decide_eq_false (by omega)] <;> rfl
  have c1 : (its.toArray.isEmpty || k == 1) = false := by
    rw [hi, Bool.false_or]
    exact beq_eq_false_iff_ne.mpr (by omega)
  have c2 : (decide (k ≤ 0) || its.toArray.isEmpty) = false := by
    rw [hi, Bool.or_false]
    exact decide_eq_false (by omega)
  have c4 : Builtin.Tuple.tupleTooMany (((its.toArray.size : Nat) : Int) * k) = false := by
    unfold Builtin.Tuple.tupleTooMany
    rw [sizeLine_eq]
    exact decide_eq_false (by omega)
  refine wpAny_binaryOp_repeat_ref (T := "tuple") (U := "int") (by decide) ⟨_, ho, rfl⟩ (fun s' => typeIs_int s' k t) noFill_tuple_mul F.fills_int_mul F.slot_int_rmul repeat_tuple F.slot_int_index.lookup
    (call_meets F.slot_int_rmul (typeIs_int s k t) F.entry_int_rmul (F.args_int_rmul_2 _ _) (int_rmul_tuple k t l its.toArray n dd sl)
      ⟨ho, rfl, ⟨_, ho, rfl⟩, call_meets F.slot_tuple_mul ⟨_, ho, rfl⟩ F.entry_tuple_mul (F.args_tuple_mul_2 _ _) (tuple_mulW l its.toArray n dd sl k t c0 c1 c2 (by omega) c4 (by rw [size_rep, List.size_toArray]; exact flen)) ⟨ho, ?_⟩⟩)
  rw [size_rep]
  refine ⟨.ref s.heap.objs.size, _, I.laid (t' := s.toks) (o := .tup (List.replicate k.toNat xs).flatten) (fun b ob q => Heap.get?_push_of_some _ q) (Nat.le_refl _) ?_, rfl, q2 k1 _ (I.hok.fresh (Nat.le_refl _))⟩
  exact ⟨by rw [PyProof.Rows.lm_len_rep_flat, sizeLine_eq]; omega, _, r.rep k.toNat, IsTup.new _ _⟩
end

/-! one way for all cases of tuples put together -/
section
variable {K : PySem.W.Frag} {H : Hp} {Q : VK}
theorem rep_all {l : Addr} {k : Int} {xs : List V} (hl : H l = some (.tup xs)) (hne : xs ≠ []) (h1 : 1 ≤ k) (h2 : k ≤ 1000000) (hz : k.toNat * xs.length ≤ 1000000)
    (h : ∀ p H', Same H H' → H' p = some (.tup (List.replicate k.toNat xs).flatten) → Q (.ref p) H') : rRepA K (.ref l) (.int k) H Q := by
  refine ⟨l, k, xs, rfl, rfl, .inl (.inl hl), hne, h1, h2, hz, fun e => ?_, fun _ p np => h p _ (fun b x e => by rw [upd_ne (ne_of_none e np)]; exact e) upd_same⟩
  subst e
  refine h l H (fun _ _ e => e) ?_
  rw [hl]
  show some (HO.tup xs) = some (HO.tup (List.replicate 1 xs).flatten)
  simp
theorem rep_all_eq {l : Addr} {k : Nat} {v : V} {xs : List V} (e : v = .int (k : Nat)) (hl : H l = some (.tup xs)) (hne : xs ≠ []) (h1 : 1 ≤ k) (h2 : k ≤ 1000000) (hz : k * xs.length ≤ 1000000)
    (h : ∀ p H', Same H H' → H' p = some (.tup (List.replicate k xs).flatten) → Q (.ref p) H') : rRepA K (.ref l) v H Q := by
  subst e
  exact rep_all hl hne (by omega) (by omega) hz h
theorem cat_all {a b : Addr} {xs ys : List V} (ha : H a = some (.tup xs)) (hb : H b = some (.tup ys)) (hz : xs.length + ys.length ≤ sizeLine)
    (h : ∀ p H', Same H H' → H' p = some (.tup (xs ++ ys)) → Q (.ref p) H') : rCatA K (.ref a) (.ref b) H Q := by
  refine ⟨a, b, xs, ys, rfl, rfl, .inl (.inl ha), .inl (.inl hb), hz, fun e => ?_, fun _ e => ?_, fun _ _ p np => h p _ (fun b x e => by rw [upd_ne (ne_of_none e np)]; exact e) upd_same⟩
  · subst e
    exact h b H (fun _ _ e => e) hb
  · subst e
    exact h a H (fun _ _ e => e) (by rw [List.append_nil]; exact ha)
theorem sl_all {a : Addr} {xs : List V} {lo hi : Option Int} (ha : H a = some (.tup xs)) (h : ∀ p H', Same H H' → H' p = some (.tup (cutV xs lo hi)) → Q (.ref p) H') : rSlA K (.ref a) lo hi H Q := by
  refine ⟨a, xs, rfl, .inl (.inl ha), fun w => ?_, fun _ p np => h p _ (fun b x e => by rw [upd_ne (ne_of_none e np)]; exact e) upd_same⟩
  refine h a H (fun _ _ e => e) ?_
  rw [ha]
  unfold cutV
  rw [w.1, w.2, List.drop_zero, Nat.sub_zero, List.take_length]
end

/-- t != () of any tuple -/
def rNe0 (K : PySem.W.Frag) : R2 := fun x y H Q => ∃ a b xs, x = .ref a ∧ y = .ref b ∧ SqT K H a xs ∧ SqT K H b [] ∧ Q (.bl (!xs.isEmpty)) H
section
variable {X : Cx}
theorem op_neT0 (hu : X.A.units + 64 < cLine) : OpR X (compareOp .NotEq) (rNe0 X.K) := by
  intro pins s σ H x y v u Q I rx ry h
  obtain ⟨a, b, xs, rfl, rfl, ha, hb, q⟩ := h
  cases rx
  cases ry
  obtain ⟨its, r1, p1, _⟩ := I.tuple ha
  obtain ⟨its2, r2, p2, _⟩ := I.tuple hb
  cases r2
  have R := PySem.SeqAt.RcNeAt.tuples (A := X.A) (s := s) (e := fun _ => true) p1 p2 (by omega) (fun j h1 h2 => absurd h2 (by simp)) X.prog X.w X.xe (EP X pins σ Q)
  refine R ⟨.bl _, H, I, rfl, ?_⟩
  have e : (!((List.range (min its.toArray.size (#[] : Array Value).size)).all (fun _ => true) && its.toArray.size == (#[] : Array Value).size)) = !xs.isEmpty := by
    have hl := r1.length
    cases xs with
    | nil =>
      cases its with
      | nil => rfl
      | cons c cs => cases hl
    | cons y ys =>
      cases its with
      | nil => cases hl
      | cons c cs => simp
  rw [show (!((List.range (min its.toArray.size ([] : List Value).toArray.size)).all (fun _ => true) && its.toArray.size == ([] : List Value).toArray.size)) = !xs.isEmpty from e]
  exact q
end
end G1
/-! zip of a tuple and a list -/
namespace G1
open PySem PySem.Spec PyProof.Rows L2
/-- the items of the tuple at a and of the list at c beside one another -/
def ItzM (K : PySem.W.Frag) (a c : Addr) : It :=
  ⟨fun i H => ∃ (xs ys : List V) (x y : V), SqT K H a xs ∧ SqL K H c ys ∧ xs[i]? = some x ∧ ys[i]? = some y,
   fun i H v H' => ∃ T x y, v = .ref T ∧ H T = none ∧ H' = upd H T (.tup [x, y]) ∧ (∀ xs, SqT K H a xs → xs[i]? = some x) ∧ ∀ ys, SqL K H c ys → ys[i]? = some y,
   fun i H => ∃ xs ys : List V, SqT K H a xs ∧ SqL K H c ys ∧ i = min xs.length ys.length⟩
theorem sepM {a c b : Addr} (ha : a < b) (hc : c < b) : ZipSep2 (b + 4) (b + 2) (b + 3) b (b + 1) [b, a] [b + 1, c] := by
  have n : ∀ (i j : Nat), i ≠ j → b + i ≠ b + j := fun i j h z => h (Nat.add_left_cancel z)
  have la : ∀ i : Nat, b + i ≠ a := fun i => Nat.ne_of_gt (Nat.lt_of_lt_of_le ha (Nat.le_add_right b i))
  have lc : ∀ i : Nat, b + i ≠ c := fun i => Nat.ne_of_gt (Nat.lt_of_lt_of_le hc (Nat.le_add_right b i))
  have nm : ∀ x y z : Addr, x ≠ y → x ≠ z → x ∉ [y, z] := fun x y z h1 h2 m => by
    rcases (by simpa using m : x = y ∨ x = z) with e | e
    · exact h1 e
    · exact h2 e
  exact ⟨n 2 4 (by decide), n 3 4 (by decide), n 2 3 (by decide), n 2 0 (by decide), by simp, nm _ _ _ (n 4 0 (by decide)) (la 4), nm _ _ _ (n 3 0 (by decide)) (la 3),
    n 2 1 (by decide), by simp, nm _ _ _ (n 4 1 (by decide)) (lc 4), nm _ _ _ (n 3 1 (by decide)) (lc 3), nm _ _ _ (n 0 1 (by decide)) (lc 0), nm _ _ _ (n 1 0 (by decide)) (la 1)⟩
def tnM (a c b : Addr) (i : Nat) (h : Heap) : Prop :=
  IsZip h (b + 4) (b + 2) (b + 3) .none ∧ IsTupOf2 h (b + 2) (.ref b) (.ref (b + 1)) ∧ (∃ u v, IsTupOf2 h (b + 3) u v) ∧ h.IsTupleIter b a i ∧ h.IsListIter (b + 1) c i
theorem turn_zipM {P : Program} {w : World} {K : PySem.W.Frag} {elts : List Expr} {kk : Nat} {tpos : Pos} {a c b : Addr} (ha : a < b) (hc : c < b) :
    Turn P w K (.Tuple elts kk tpos) (ItzM K a c) [b, b + 1, b + 2, b + 3, b + 4] (b + 4) (tnM a c b) where
  mem := by simp
  obj := fun i h st x hx => by
    obtain ⟨hz, h2, ⟨u, v, h3⟩, ⟨o1, q1, _, d1⟩, ⟨o2, q2, _, d2⟩⟩ := st
    rcases (by simpa using hx : x = b ∨ x = b + 1 ∨ x = b + 2 ∨ x = b + 3 ∨ x = b + 4) with rfl | rfl | rfl | rfl | rfl
    · exact ⟨o1, q1, fun v z => by rw [d1] at z; cases z⟩
    · exact ⟨o2, q2, fun v z => by rw [d2] at z; cases z⟩
    · exact ⟨_, h2, fun v z => nomatch z⟩
    · exact ⟨_, h3, fun v z => nomatch z⟩
    · exact ⟨_, hz, fun v z => nomatch z⟩
  keep := fun i h h' st k => by
    obtain ⟨hz, h2, ⟨u, v, h3⟩, ⟨o1, q1, r1⟩, ⟨o2, q2, r2⟩⟩ := st
    exact ⟨k _ (by simp) _ hz, k _ (by simp) _ h2, ⟨u, v, k _ (by simp) _ h3⟩, ⟨o1, k _ (by simp) _ q1, r1⟩, ⟨o2, k _ (by simp) _ q2, r2⟩⟩
  item := by
    intro X hX hW hKK calm i pins s σ H E I away st hg
    subst hX hW hKK
    obtain ⟨xs, ys, x, y, hqx, hqy, hx, hy⟩ := hg
    obtain ⟨hz, hTI, hTO, st1, st2⟩ := st
    obtain ⟨its, rv, p1, _⟩ := I.tuple hqx
    obtain ⟨its2, rv2, p2, _⟩ := I.list hqy
    obtain ⟨u, hu, ru⟩ := rv.get hx
    obtain ⟨u2, hu2, ru2⟩ := rv2.get hy
    have D1 := Draws.tuple (prog := X.prog) (w := X.w) (A := X.A.in1) (I.ok.hd calm) b a (Nat.ne_of_lt ha) its.toArray
    have D2 := Draws.list (prog := X.prog) (w := X.w) (A := X.A.in1) (I.ok.hd calm) (b + 1) c (Nat.ne_of_lt (Nat.lt_succ_of_lt hc)) its2.toArray
    have W := GoesN.zip2 (elts := elts) (x1 := kk) (pos := tpos) (sepM ha hc) D1 D2
    have il : i < min its.toArray.size its2.toArray.size := by
      have e1 := (List.getElem?_eq_some_iff.mp hu).1
      have e2 := (List.getElem?_eq_some_iff.mp hu2).1
      rw [List.size_toArray, List.size_toArray]
      omega
    refine W.goes i s _ E il ⟨hz, hTI, hTO, ⟨st1, p1⟩, ⟨st2, p2.isList⟩⟩ fun v h' tk hY st' hk htk => ?_
    obtain ⟨T, y1, y2, ev, hT, hy1, hy2, hO⟩ := hY
    have ey1 : y1 = u := by
      rw [List.getElem?_toArray, hu] at hy1
      exact (Option.some.inj hy1).symm
    have ey2 : y2 = u2 := by
      rw [List.getElem?_toArray, hu2] at hy2
      exact (Option.some.inj hy2).symm
    subst ev ey1 ey2
    obtain ⟨o, ho, hoc, n, hod⟩ := hO
    have new : ObjOk X.prog X.w (upd H T (.tup [x, y])) h' T (.tup [x, y]) :=
      ⟨by show 2 ≤ sizeLine; decide, [y1, y2], .cons ru (.cons ru2 .nil), ⟨o, ho, hoc, n, hod⟩⟩
    have I1 : Inv X pins σ (upd H T (.tup [x, y])) { s with heap := h', toks := tk } :=
      I.turnedNew (ch := [b, b + 1, b + 2, b + 3, b + 4]) (fun q o hq e => hk q o (fun z => hq (by
        rcases (by simpa using z : q = b + 4 ∨ q = b + 3 ∨ q = b ∨ q = b + 1) with rfl | rfl | rfl | rfl <;> simp)) e) away hT new
    refine ⟨.ref T, _, I1, rfl, ⟨T, x, y, rfl, I.hok.fresh hT, rfl, fun zs hq => by rw [I.tuple_inj hq hqx]; exact hx, fun zs hq => by rw [I.list_inj hq hqy]; exact hy⟩, ⟨st'.1, st'.2.1, st'.2.2.1, st'.2.2.2.1.1, st'.2.2.2.2.1⟩, fun q hq => ?_⟩
    have hb' : q < s.heap.objs.size := by
      have e4 : b + 4 < s.heap.objs.size := Heap.lt_size hz
      have l : ∀ j : Nat, j ≤ 4 → b + j < s.heap.objs.size := fun j hj => Nat.lt_of_le_of_lt (Nat.add_le_add_left hj b) e4
      rcases (by simpa using hq : q = b ∨ q = b + 1 ∨ q = b + 2 ∨ q = b + 3 ∨ q = b + 4) with rfl | rfl | rfl | rfl | rfl
      · exact l 0 (by decide)
      · exact l 1 (by decide)
      · exact l 2 (by decide)
      · exact l 3 (by decide)
      · exact l 4 (by decide)
    rw [upd_ne (Nat.ne_of_lt (Nat.lt_of_lt_of_le hb' hT))]
    exact (away q hq).1
  done := by
    intro X hX hW hKK calm i pins s σ H E I away st hg
    subst hX hW hKK
    obtain ⟨xs, ys, hqx, hqy, hi⟩ := hg
    obtain ⟨hz, hTI, hTO, st1, st2⟩ := st
    obtain ⟨its, rv, p1, _⟩ := I.tuple hqx
    obtain ⟨its2, rv2, p2, _⟩ := I.list hqy
    have l1 := rv.length
    have l2 := rv2.length
    have D1 := Draws.tuple (prog := X.prog) (w := X.w) (A := X.A.in1) (I.ok.hd calm) b a (Nat.ne_of_lt ha) its.toArray
    have D2 := Draws.list (prog := X.prog) (w := X.w) (A := X.A.in1) (I.ok.hd calm) (b + 1) c (Nat.ne_of_lt (Nat.lt_succ_of_lt hc)) its2.toArray
    have W := GoesN.zip2 (elts := elts) (x1 := kk) (pos := tpos) (sepM ha hc) D1 D2
    have ei : i = min its.toArray.size its2.toArray.size := by
      rw [List.size_toArray, List.size_toArray]
      omega
    rw [ei] at st1 st2
    refine W.stops s _ E ⟨hz, hTI, hTO, ⟨st1, p1⟩, ⟨st2, p2.isList⟩⟩ fun h' tk hk htk => ?_
    exact I.turnedL (t' := tk) (ch := [b, b + 1, b + 2, b + 3, b + 4]) (fun q o hq e => hk q o (fun z => hq (by
        rcases (by simpa using z : q = b + 4 ∨ q = b + 3 ∨ q = b ∨ q = b + 1) with rfl | rfl | rfl | rfl <;> simp)) e) away
  self := fun A i s Q E st q => wpAny_pyIter_zip st.1 q
def iZipM (K : PySem.W.Frag) (ta : TA) : TI := fun σ H R => ta σ H fun vs H1 => ∃ a c xs ys, vs = [.ref a, .ref c] ∧ SqT K H1 a xs ∧ SqL K H1 c ys ∧ R (ItzM K a c) H1
theorem pi_zipM {X : Cx} {e e2 : Expr} {ta : TA} {p pos tpos : Pos} {elts : List Expr} {kk : Nat} (hg : Gl X "zip") (hm : X.mg "zip" = none) (ha : PA X [e, e2] ta)
    (hs : starEach [e, e2] X.env = (false, eval e X.env) :: starEach [e2] X.env := by rfl) (hpl : (backTo pos (starEach [e2] X.env)).any (·.1) = false := by rfl) :
    PI X (.Tuple elts kk tpos) (.Call (.Name "zip" p) [e, e2] [] pos) (iZipM X.K ta) := by
  refine ⟨fun pins s σ H R I h => ?_⟩
  refine Call_ (ld_blt I hg hm PyProof.Rows.boot_zip (PyProof.Rows.callWith_type1 (thn (ha.run pos pins s σ H _ I h) fun us s1 ⟨vs, H1, I1, r1, q1⟩ => ?_) hs hpl))
  obtain ⟨a, c, xs, ys, ex, hqx, hqy, q⟩ := q1
  subst ex
  cases r1 with
  | cons r rr =>
    cases rr with
    | cons r' rr =>
      cases rr
      cases r
      cases r'
      obtain ⟨its, rv, p1, _⟩ := I1.tuple hqx
      obtain ⟨its2, rv2, p2, _⟩ := I1.list hqy
      have la : a < s1.heap.objs.size := by
        obtain ⟨o, ho, _⟩ := p1
        exact Heap.lt_size ho
      have lc : c < s1.heap.objs.size := p2.lt
      refine zip_begins2 (begins_tuple a its.toArray) (begins_list c its2.toArray) p1 p2.isList fun h' hz hTI hTO h1 h2 hsz hk => wpAny_pyIter_zip hz ?_
      have I2 : Inv X pins σ H1 { s1 with heap := h' } := I1.kept (t' := s1.toks) hk
      refine ⟨s1.heap.objs.size + 4, [s1.heap.objs.size, s1.heap.objs.size + 1, s1.heap.objs.size + 2, s1.heap.objs.size + 3, s1.heap.objs.size + 4], _, _, H1, rfl, I2, turn_zipM la lc, ⟨hz, hTI, ⟨_, _, hTO⟩, ⟨_, h1, rfl, rfl⟩, ⟨_, h2, rfl, rfl⟩⟩, fun x hx => ?_, q⟩
      have up : s1.heap.objs.size ≤ x := by
        rcases (by simpa using hx : x = s1.heap.objs.size ∨ x = s1.heap.objs.size + 1 ∨ x = s1.heap.objs.size + 2 ∨ x = s1.heap.objs.size + 3 ∨ x = s1.heap.objs.size + 4) with z | z | z | z | z
        · rw [z]; exact Nat.le_refl _
        · rw [z]; exact Nat.le_add_right _ _
        · rw [z]; exact Nat.le_add_right _ _
        · rw [z]; exact Nat.le_add_right _ _
        · rw [z]; exact Nat.le_add_right _ _
      exact I1.fpOk up (I1.hok.fresh up)
end G1
/-! one of two readings; zips as walks -/
namespace G1
open PySem PySem.Spec PyProof.Rows L2 RZ
section
variable {X : Cx}
theorem PE.or {e : Expr} {t1 t2 : TE} (a : PE X e t1) (b : PE X e t2) : PE X e (fun σ H Q => t1 σ H Q ∨ t2 σ H Q) :=
  ⟨fun pins s σ H Q I h => h.elim (fun h => a.run pins s σ H Q I h) (fun h => b.run pins s σ H Q I h)⟩
theorem PI.or {tg e : Expr} {t1 t2 : TI} (a : PI X tg e t1) (b : PI X tg e t2) : PI X tg e (fun σ H R => t1 σ H R ∨ t2 σ H R) :=
  ⟨fun pins s σ H R I h => h.elim (fun h => a.run pins s σ H R I h) (fun h => b.run pins s σ H R I h)⟩
end
section
variable {K : PySem.W.Frag} {a c : Addr} {xs ys : List V}
theorem walk_zipM {n : Nat} (hn : n = min xs.length ys.length) : Walk (ItzM K a c) n (fun H => SqT K H a xs ∧ SqL K H c ys) (YPair (fun i => xs[i]?) (fun i => ys[i]?)) := by
  subst hn
  refine ⟨fun i H hi q => ⟨xs, ys, xs[i]'(by omega), ys[i]'(by omega), q.1, q.2, by simp [show i < xs.length by omega], by simp [show i < ys.length by omega]⟩, fun H q => ⟨xs, ys, q.1, q.2, rfl⟩, fun i H v H' hi q y => ?_⟩
  obtain ⟨T, x, y, rfl, hT, rfl, h1, h2⟩ := y
  exact ⟨T, x, y, rfl, hT, rfl, h1 xs q.1, h2 ys q.2⟩
theorem walk_zipT {n : Nat} (hn : n = min xs.length ys.length) : Walk (ItzT K a c) n (fun H => SqT K H a xs ∧ SqT K H c ys) (YPair (fun i => xs[i]?) (fun i => ys[i]?)) := by
  subst hn
  refine ⟨fun i H hi q => ⟨xs, ys, xs[i]'(by omega), ys[i]'(by omega), q.1, q.2, by simp [show i < xs.length by omega], by simp [show i < ys.length by omega]⟩, fun H q => ⟨xs, ys, q.1, q.2, by omega⟩, fun i H v H' hi q y => ?_⟩
  obtain ⟨T, x, y, rfl, hT, rfl, h1, h2⟩ := y
  exact ⟨T, x, y, rfl, hT, rfl, h1 xs q.1, h2 ys q.2⟩
end
end G1
/-! rows by told sums: states, rounds -/
namespace Sq
def nxt (m : Nat) (fs as : List Nat) : Nat := (List.zipWith (· * ·) fs as.reverse).sum % m
def st (m : Nat) (fs bs : List Nat) : Nat → List Nat
  | 0 => bs
  | n + 1 => (st m fs bs n).tail ++ [nxt m fs (st m fs bs n)]
def xv (m : Nat) (fs bs : List Nat) (n : Nat) : Nat := (st m fs bs n).headD 0
def rw_ (m : Nat) (fs bs : List Nat) (n : Nat) : List Nat := (List.range n).map (xv m fs bs)
structure Rl (m : Nat) (fs bs : List Nat) : Prop where
  m2 : 2 ≤ m
  m9 : m ≤ 9
  f1 : 1 ≤ fs.length
  f4 : fs.length ≤ 4
  fb : bs.length = fs.length
  fm : ∀ f, f ∈ fs → f < m
  bm : ∀ b, b ∈ bs → b < m
  big : m ^ fs.length ≤ 5000
section
variable {m : Nat} {fs bs : List Nat}
theorem nxt_lt (h : 0 < m) (as : List Nat) : nxt m fs as < m := Nat.mod_lt _ h
theorem st_len (r : Rl m fs bs) : ∀ n, (st m fs bs n).length = fs.length
  | 0 => r.fb
  | n + 1 => by
    have := r.f1
    simp only [st, List.length_append, List.length_tail, st_len r n, List.length_cons, List.length_nil]
    omega
theorem st_lt (r : Rl m fs bs) : ∀ n v, v ∈ st m fs bs n → v < m
  | 0, v, h => r.bm v h
  | n + 1, v, h => by
    have := r.m2
    simp only [st, List.mem_append, List.mem_singleton] at h
    rcases h with h | h
    · exact st_lt r n v (List.mem_of_mem_tail h)
    · rw [h]
      exact nxt_lt (by omega) _
theorem st_shift (r : Rl m fs bs) (n i : Nat) (h : i + 1 < fs.length) : (st m fs bs (n + 1))[i]? = (st m fs bs n)[i + 1]? := by
  have l := st_len r n
  simp only [st]
  rw [List.getElem?_append_left (by rw [List.length_tail]; omega), List.getElem?_tail]
theorem st_last (r : Rl m fs bs) (n : Nat) : (st m fs bs (n + 1))[fs.length - 1]? = some (nxt m fs (st m fs bs n)) := by
  have l := st_len r n
  have f1 := r.f1
  simp only [st]
  rw [List.getElem?_append_right (by rw [List.length_tail]; omega), List.length_tail, l, Nat.sub_self]
  rfl
theorem st_get (r : Rl m fs bs) : ∀ i n, i < fs.length → (st m fs bs n)[i]? = some (xv m fs bs (n + i))
  | 0, n, h => by
    have l := st_len r n
    unfold xv
    rw [Nat.add_zero]
    cases e : st m fs bs n with
    | nil => rw [e] at l; simp at l; omega
    | cons a as => rfl
  | i + 1, n, h => by
    rw [← st_shift r n i h, st_get r i (n + 1) (by omega)]
    congr 2
    omega
theorem x_next (r : Rl m fs bs) (n : Nat) : xv m fs bs (n + fs.length) = nxt m fs (st m fs bs n) := by
  have f1 := r.f1
  have h := st_get r (fs.length - 1) (n + 1) (by omega)
  rw [st_last r n] at h
  have e := Option.some.inj h
  rw [e]
  congr 1
  omega
theorem x_lt (r : Rl m fs bs) (n : Nat) : xv m fs bs n < m := by
  have h := st_get r 0 n r.f1
  rw [Nat.add_zero] at h
  exact st_lt r n _ (List.mem_of_getElem? h)
theorem rw_len (n : Nat) : (rw_ m fs bs n).length = n := by unfold rw_; rw [List.length_map, List.length_range]
theorem rw_succ (n : Nat) : rw_ m fs bs (n + 1) = rw_ m fs bs n ++ [xv m fs bs n] := by unfold rw_; rw [List.range_succ, List.map_append]; rfl
theorem rw_get {n i : Nat} (h : i < n) : (rw_ m fs bs n)[i]? = some (xv m fs bs i) := by
  unfold rw_
  rw [List.getElem?_map, List.getElem?_range h]
  rfl
theorem rw_take (n k : Nat) : (rw_ m fs bs n).take k = rw_ m fs bs (min k n) := by
  apply List.ext_getElem?
  intro i
  rw [List.getElem?_take]
  by_cases h : i < k
  · rw [if_pos h]
    by_cases h2 : i < n
    · rw [rw_get h2, rw_get (by omega)]
    · rw [List.getElem?_eq_none (by rw [rw_len]; omega), List.getElem?_eq_none (by rw [rw_len]; omega)]
  · rw [if_neg h, List.getElem?_eq_none (by rw [rw_len]; omega)]
theorem st_row (r : Rl m fs bs) (n : Nat) : (rw_ m fs bs (n + fs.length)).drop n = st m fs bs n := by
  apply List.ext_getElem?
  intro i
  rw [List.getElem?_drop]
  by_cases h : i < fs.length
  · rw [rw_get (by omega), st_get r i n h]
  · rw [List.getElem?_eq_none (by rw [rw_len]; omega), List.getElem?_eq_none (by rw [st_len r]; omega)]
theorem rw_begin (r : Rl m fs bs) : rw_ m fs bs fs.length = bs := by
  have h := st_row r 0
  rw [Nat.zero_add, List.drop_zero] at h
  exact h
theorem rw_mid (r : Rl m fs bs) {n N : Nat} (h : n + fs.length ≤ N) : ((rw_ m fs bs N).take (n + fs.length)).drop n = st m fs bs n := by
  rw [rw_take, Nat.min_eq_left h, st_row r]

/-! ### rounds -/
structure IsRound (m : Nat) (fs bs : List Nat) (h t : Nat) : Prop where
  t1 : 1 ≤ t
  eq : st m fs bs (h + t) = st m fs bs h
  ne : ∀ i j, i < j → j < h + t → st m fs bs i ≠ st m fs bs j
theorem IsRound.uniq {h t h' t' : Nat} (a : IsRound m fs bs h t) (b : IsRound m fs bs h' t') : h = h' ∧ t = t' := by
  have a1 := a.t1
  have b1 := b.t1
  have e : h + t = h' + t' := by
    rcases Nat.lt_trichotomy (h + t) (h' + t') with c | c | c
    · exact absurd a.eq.symm (b.ne h (h + t) (by omega) c)
    · exact c
    · exact absurd b.eq.symm (a.ne h' (h' + t') (by omega) c)
  have e2 : h = h' := by
    rcases Nat.lt_trichotomy h h' with c | c | c
    · exact absurd (by rw [← a.eq, ← b.eq, e]) (a.ne h h' c (by omega))
    · exact c
    · exact absurd (by rw [← b.eq, ← a.eq, e]) (a.ne h' h c (by omega))
  exact ⟨e2, by omega⟩
/-! pigeonholes -/
theorem nodup_le : ∀ (N : Nat) (l : List Nat), l.Nodup → (∀ x, x ∈ l → x < N) → l.length ≤ N
  | 0, [], _, _ => Nat.le_refl _
  | 0, a :: l, _, h => absurd (h a List.mem_cons_self) (Nat.not_lt_zero _)
  | N + 1, l, nd, h => by
    have h2 := nodup_le N (l.filter (fun x => x != N)) (nd.sublist List.filter_sublist) (fun x hx => by
      have := List.mem_filter.mp hx
      have a := h x this.1
      have b : x ≠ N := by simpa using this.2
      omega)
    have key : ∀ l : List Nat, l.Nodup → l.length ≤ (l.filter (fun x => x != N)).length + 1 := by
      intro l
      induction l with
      | nil => intro _; simp
      | cons a l ih =>
        intro nd
        rw [List.nodup_cons] at nd
        by_cases e : a = N
        · subst e
          have : l.filter (fun x => x != a) = l := by
            rw [List.filter_eq_self]
            intro x hx
            have : x ≠ a := fun z => nd.1 (z ▸ hx)
            simpa using this
          rw [List.filter_cons_of_neg (by simp), this]
          simp
        · rw [List.filter_cons_of_pos (by simpa using e)]
          have := ih nd.2
          simp only [List.length_cons]
          omega
    have := key l nd
    omega
def code (m : Nat) : List Nat → Nat
  | [] => 0
  | a :: l => a + m * code m l
theorem code_lt (h : 0 < m) : ∀ l : List Nat, (∀ v, v ∈ l → v < m) → code m l < m ^ l.length
  | [], _ => by simp [code]
  | a :: l, hl => by
    have h1 := hl a List.mem_cons_self
    have h2 := code_lt h l fun v hv => hl v (List.mem_cons_of_mem _ hv)
    simp only [code, List.length_cons, Nat.pow_succ]
    have : m * (code m l + 1) ≤ m * m ^ l.length := Nat.mul_le_mul_left _ h2
    rw [Nat.mul_comm (m ^ l.length)]
    rw [Nat.mul_add, Nat.mul_one] at this
    omega
theorem code_inj (h : 0 < m) : ∀ l k : List Nat, l.length = k.length → (∀ v, v ∈ l → v < m) → (∀ v, v ∈ k → v < m) → code m l = code m k → l = k
  | [], [], _, _, _, _ => rfl
  | [], _ :: _, e, _, _, _ => by cases e
  | _ :: _, [], e, _, _, _ => by cases e
  | a :: l, b :: k, e, hl, hk, q => by
    have h1 := hl a List.mem_cons_self
    have h2 := hk b List.mem_cons_self
    simp only [code] at q
    have e1 : a = b := by
      have := congrArg (· % m) q
      simp only [Nat.add_mul_mod_self_left, Nat.mod_eq_of_lt h1, Nat.mod_eq_of_lt h2] at this
      exact this
    subst e1
    have e2 : code m l = code m k := Nat.eq_of_mul_eq_mul_left h (by omega)
    rw [code_inj h l k (by simpa using e) (fun v hv => hl v (List.mem_cons_of_mem _ hv)) (fun v hv => hk v (List.mem_cons_of_mem _ hv)) e2]
theorem ne_bound (r : Rl m fs bs) {n : Nat} (ne : ∀ i j, i < j → j < n → st m fs bs i ≠ st m fs bs j) : n ≤ m ^ fs.length := by
  have m2 := r.m2
  have nd : ((List.range n).map fun i => code m (st m fs bs i)).Nodup := by
    refine List.pairwise_iff_getElem.mpr fun i j hi hj hij => ?_
    rw [List.length_map, List.length_range] at hj
    rw [List.getElem_map, List.getElem_map, List.getElem_range, List.getElem_range]
    intro q2
    exact ne i j hij hj (code_inj (by omega) _ _ (by rw [st_len r, st_len r]) (st_lt r i) (st_lt r j) q2)
  have := nodup_le (m ^ fs.length) _ nd (fun x hx => by
    obtain ⟨i, _, rfl⟩ := List.mem_map.mp hx
    have := code_lt (m := m) (by omega) (st m fs bs i) (st_lt r i)
    rw [st_len r] at this
    exact this)
  rwa [List.length_map, List.length_range] at this
theorem IsRound.le (r : Rl m fs bs) {h t : Nat} (a : IsRound m fs bs h t) : h + t ≤ m ^ fs.length := ne_bound r a.ne
theorem st_congr {a b : Nat} (e : st m fs bs a = st m fs bs b) : ∀ k, st m fs bs (a + k) = st m fs bs (b + k)
  | 0 => e
  | k + 1 => by
    show st m fs bs (a + k + 1) = st m fs bs (b + k + 1)
    simp only [st]
    rw [st_congr e k]
theorem x_congr {a b : Nat} (e : st m fs bs a = st m fs bs b) (k : Nat) : xv m fs bs (a + k) = xv m fs bs (b + k) := by
  unfold xv
  rw [st_congr e k]
theorem IsRound.per {h t : Nat} (a : IsRound m fs bs h t) (n : Nat) (hn : h ≤ n) : xv m fs bs (n + t) = xv m fs bs n := by
  have := x_congr a.eq (n - h)
  rw [show h + t + (n - h) = n + t by omega, show h + (n - h) = n by omega] at this
  exact this
theorem IsRound.perk {h t : Nat} (a : IsRound m fs bs h t) (k i : Nat) : xv m fs bs (h + (i + t * k)) = xv m fs bs (h + i) := by
  induction k with
  | zero => rfl
  | succ k ih =>
    rw [← ih, ← a.per (h + (i + t * k)) (by omega)]
    congr 1
    rw [Nat.mul_succ]
    omega
theorem IsRound.mod {h t : Nat} (a : IsRound m fs bs h t) (i : Nat) : xv m fs bs (h + i) = xv m fs bs (h + i % t) := by
  have := a.perk (i / t) (i % t)
  rw [Nat.mod_add_div] at this
  exact this
theorem st_eq_of (r : Rl m fs bs) {a b : Nat} (e : ∀ i, i < fs.length → xv m fs bs (a + i) = xv m fs bs (b + i)) : st m fs bs a = st m fs bs b := by
  apply List.ext_getElem?
  intro i
  by_cases h : i < fs.length
  · rw [st_get r i a h, st_get r i b h, e i h]
  · rw [List.getElem?_eq_none (by rw [st_len r]; omega), List.getElem?_eq_none (by rw [st_len r]; omega)]
/-- the number ahead of the round is another one -/
theorem IsRound.ahead (r : Rl m fs bs) {h t : Nat} (a : IsRound m fs bs h t) (h0 : 0 < h) : xv m fs bs (h - 1) ≠ xv m fs bs (h - 1 + t) := by
  intro q
  have t1 := a.t1
  refine a.ne (h - 1) (h - 1 + t) (by omega) (by omega) (st_eq_of r fun i hi => ?_)
  cases i with
  | zero => exact q
  | succ i =>
    have := x_congr a.eq i
    rw [show h - 1 + (i + 1) = h + i by omega, show h - 1 + t + (i + 1) = h + t + i by omega, this]
/-- no lesser turn -/
theorem IsRound.no_less (r : Rl m fs bs) {h t s : Nat} (a : IsRound m fs bs h t) (s1 : 1 ≤ s) (st_ : s < t) (d : t % s = 0) (q : ∀ i, i < t → xv m fs bs (h + i) = xv m fs bs (h + i % s)) : False := by
  have t1 := a.t1
  have all : ∀ i, xv m fs bs (h + i) = xv m fs bs (h + i % s) := fun i => by
    rw [a.mod i, q _ (Nat.mod_lt _ (by omega)), Nat.mod_mod_of_dvd _ (Nat.dvd_of_mod_eq_zero d)]
  refine a.ne h (h + s) (by omega) (by omega) (st_eq_of r fun i hi => ?_)
  rw [all i, show h + s + i = h + (i + s) by omega, all (i + s), Nat.add_mod_right]
theorem mul_cancel {p f a b c : Nat} (hp : p = 2 ∨ p = 3 ∨ p = 5 ∨ p = 7) (f0 : 0 < f) (fp : f < p) (ha : a < p) (hb : b < p) (q : (c + f * a) % p = (c + f * b) % p) : a = b := by
  have q2 : (f * a) % p = (f * b) % p := by
    rcases hp with rfl | rfl | rfl | rfl <;> omega
  have d2 : ∀ f < 2, 0 < f → ∀ a < 2, ∀ b < 2, (f * a) % 2 = (f * b) % 2 → a = b := by decide
  have d3 : ∀ f < 3, 0 < f → ∀ a < 3, ∀ b < 3, (f * a) % 3 = (f * b) % 3 → a = b := by decide
  have d5 : ∀ f < 5, 0 < f → ∀ a < 5, ∀ b < 5, (f * a) % 5 = (f * b) % 5 → a = b := by decide
  have d7 : ∀ f < 7, 0 < f → ∀ a < 7, ∀ b < 7, (f * a) % 7 = (f * b) % 7 → a = b := by decide
  rcases hp with rfl | rfl | rfl | rfl
  · exact d2 f fp f0 a ha b hb q2
  · exact d3 f fp f0 a ha b hb q2
  · exact d5 f fp f0 a ha b hb q2
  · exact d7 f fp f0 a ha b hb q2
theorem nxt_split (r : Rl m fs bs) (gs as : List Nat) (fl a : Nat) (e : fs = gs ++ [fl]) (l : as.length = gs.length) : nxt m fs (a :: as) = ((List.zipWith (· * ·) gs as.reverse).sum + fl * a) % m := by
  unfold nxt
  rw [e, List.reverse_cons, List.zipWith_append (by rw [List.length_reverse]; exact l.symm), List.sum_append]
  simp
/-- by a prime, the last factor not 0, a row comes round from the start -/
theorem IsRound.zero (r : Rl m fs bs) {h t fl : Nat} (a : IsRound m fs bs h t) (hp : m = 2 ∨ m = 3 ∨ m = 5 ∨ m = 7) (hf : fs[fs.length - 1]? = some fl) (f0 : 0 < fl) : h = 0 := by
  refine Classical.byContradiction fun h0 => ?_
  have f1 := r.f1
  obtain ⟨gs, e⟩ : ∃ gs, fs = gs ++ [fl] := by
    refine ⟨fs.dropLast, ?_⟩
    have hne : fs ≠ [] := fun z => by rw [z] at f1; simp at f1
    have := List.dropLast_concat_getLast hne
    rw [List.getLast_eq_getElem] at this
    obtain ⟨_, e2⟩ := List.getElem?_eq_some_iff.mp hf
    rw [e2] at this
    exact this.symm
  have hk : fs.length = gs.length + 1 := by rw [e]; simp
  refine a.ahead r (by omega) ?_
  have flm : fl < m := r.fm fl (List.mem_of_getElem? hf)
  have s1 := x_next r (h - 1)
  have s2 := x_next r (h - 1 + t)
  have eqx : xv m fs bs (h - 1 + fs.length) = xv m fs bs (h - 1 + t + fs.length) := by
    have := x_congr a.eq (fs.length - 1)
    rw [show h - 1 + t + fs.length = h + t + (fs.length - 1) by omega, this]
    congr 1
    omega
  have shape : ∀ n, st m fs bs n = xv m fs bs n :: (st m fs bs n).tail := fun n => by
    have g := st_get r 0 n (by omega)
    rw [Nat.add_zero] at g
    cases c : st m fs bs n with
    | nil => rw [c] at g; cases g
    | cons u us =>
      rw [c] at g
      have := Option.some.inj g
      rw [List.tail_cons, ← this]
  have tails : (st m fs bs (h - 1)).tail = (st m fs bs (h - 1 + t)).tail := by
    apply List.ext_getElem?
    intro i
    rw [List.getElem?_tail, List.getElem?_tail]
    by_cases hi : i + 1 < fs.length
    · rw [st_get r (i + 1) _ hi, st_get r (i + 1) _ hi]
      have := x_congr a.eq i
      rw [show h - 1 + (i + 1) = h + i by omega, show h - 1 + t + (i + 1) = h + t + i by omega, this]
    · rw [List.getElem?_eq_none (by rw [st_len r]; omega), List.getElem?_eq_none (by rw [st_len r]; omega)]
  have lt : (st m fs bs (h - 1)).tail.length = gs.length := by rw [List.length_tail, st_len r]; omega
  rw [s1, s2, shape (h - 1), shape (h - 1 + t), nxt_split r gs _ fl _ e lt, nxt_split r gs _ fl _ e (by rw [← tails]; exact lt), tails] at eqx
  exact mul_cancel hp f0 flm (x_lt r _) (x_lt r _) eqx
end
end Sq
/-! repr of small numbers, tuples of them, tables beside one another -/
namespace G1
open PySem PySem.Spec PyProof.Rows L2
theorem small_int {i : Int} (h0 : 0 ≤ i) (h1 : i ≤ 10000) : Small (.int i) := by
  refine ⟨?_, rfl, by simp [PyData.depth], ?_, ?_⟩
  · simp only [PyData.showable]
    exact decide_eq_true (log_small h0 (by omega))
  · show decide ((PyData.shown (.int i)).length ≤ 8) = true
    rw [decide_eq_true_eq]
    have e := PyProof.Rows.toString_length_le h0 (k := 5) (by decide) (by omega)
    have e2 : (PyData.shown (.int i)).length = (Str.ofString (toString i)).length := rfl
    omega
  · show (if i == 0 then 0 else i.natAbs.log2 + 1) ≤ 20000
    split
    · omega
    · have z : i.natAbs ≠ 0 := fun e => by
        rename_i hz
        exact hz (by rw [Int.natAbs_eq_zero.mp e]; rfl)
      have : i.natAbs.log2 < 64 := (Nat.log2_lt z).mpr (by omega)
      omega
/-- a tuple of small data -/
theorem small_tup {ds : List PyData} (h : ∀ d ∈ ds, Small d ∧ d.weight ≤ 100 ∧ d.depth ≤ 3) (hl : ds.length ≤ 20) : Small (.tuple ds) := by
  obtain ⟨h1, h2, h3, h4, h5⟩ := small_all ds fun d hd => (h d hd).1
  have w : ∀ ds : List PyData, (∀ d ∈ ds, d.weight ≤ 100 ∧ d.depth ≤ 3) → PyData.weightAll ds ≤ 101 * ds.length ∧ PyData.depthAll ds ≤ 3 := by
    intro ds
    induction ds with
    | nil => intro _; simp [PyData.weightAll, PyData.depthAll]
    | cons d ds ih =>
      intro hd
      have a := hd d List.mem_cons_self
      have b := ih fun e he => hd e (List.mem_cons_of_mem _ he)
      refine ⟨?_, ?_⟩
      · simp only [PyData.weightAll, List.length_cons]
        omega
      · simp only [PyData.depthAll]
        omega
  obtain ⟨w1, w2⟩ := w ds fun d hd => (h d hd).2
  refine ⟨?_, ?_, ?_, ?_, ?_⟩
  · simp only [PyData.showable]; exact h1
  · simp only [PyData.hasDict]; exact h2
  · simp only [PyData.depth]; omega
  · simp only [PyData.leavesShort]; exact h4
  · simp only [PyData.weight]
    have : 101 * ds.length ≤ 101 * 20 := Nat.mul_le_mul_left _ hl
    omega
theorem int_fit {i : Int} (h0 : 0 ≤ i) (h1 : i ≤ 10000) : Small (.int i) ∧ PyData.weight (.int i) ≤ 20 ∧ PyData.depth (.int i) ≤ 1 := by
  refine ⟨small_int h0 h1, ?_, by simp [PyData.depth]⟩
  show (if i == 0 then 0 else i.natAbs.log2 + 1) ≤ 20
  split
  · omega
  · have z : i.natAbs ≠ 0 := fun e => by
      rename_i hz
      exact hz (by rw [Int.natAbs_eq_zero.mp e]; rfl)
    have : i.natAbs.log2 < 14 := (Nat.log2_lt z).mpr (by omega)
    omega
def dKs (ks : List Nat) : PyData := .tuple (ks.map fun k => PyData.int (k : Nat))
theorem dp_ks {K : PySem.W.Frag} {H : Hp} : ∀ ks : List Nat, DpAll K H (ks.map fun k => V.int (k : Nat)) (ks.map fun k => PyData.int (k : Nat))
  | [] => .nil
  | k :: ks => .cons (.int _) (dp_ks ks)
theorem small_ks {ks : List Nat} (h : ∀ k ∈ ks, k ≤ 10000) (hl : ks.length ≤ 20) : Small (dKs ks) := small_tup (fun d hd => by
  obtain ⟨k, hk, rfl⟩ := List.mem_map.mp hd
  have a := int_fit (i := (k : Int)) (by omega) (by have := h k hk; omega)
  exact ⟨a.1, by have := a.2.1; omega, by have := a.2.2; omega⟩) (by rw [List.length_map]; exact hl)

/-- two tables -/
@[irreducible] def dT2 (a b c d : List Bool) : PyData := .list [dTab a b, dTab c d]
theorem repr_t2 {K : PySem.W.Frag} {H : Hp} {R : PyData → Prop} {l p p' : Addr} {a b c d : List Bool} (e : H l = some (.lst [.ref p, .ref p'])) (h1 : H p = some (.tup [.str (B a), .str (B b)])) (h2 : H p' = some (.tup [.str (B c), .str (B d)]))
    (l1 : a.length ≤ 5000) (l2 : b.length ≤ 5000) (l3 : c.length ≤ 5000) (l4 : d.length ≤ 5000) (q : R (dT2 a b c d)) :
    ∃ (a' : Addr) (d' : PyData), [V.ref l] = [V.ref a'] ∧ Dp K H (.ref a') d' ∧ d'.showable = true ∧ d'.hasDict = false ∧ d'.depth ≤ 60 ∧ d'.shown.length ≤ sizeLine ∧ R d' := by
  unfold dT2 at q
  exact repr_items [dTab a b, dTab c d] e (.cons (dp_tab h1) (.cons (dp_tab h2) .nil)) (List.forall_mem_cons.mpr ⟨small_tab l1 l2, List.forall_mem_cons.mpr ⟨small_tab l3 l4, fun _ z => by cases z⟩⟩) (by simp) q
/-- a tuple of small numbers -/
theorem repr_ks {K : PySem.W.Frag} {H : Hp} {R : PyData → Prop} {p : Addr} {ks : List Nat} (h1 : H p = some (.tup (ks.map fun k => V.int (k : Nat)))) (h : ∀ k ∈ ks, k ≤ 10000) (hl : ks.length ≤ 20) (q : R (dKs ks)) :
    ∃ (a' : Addr) (d' : PyData), [V.ref p] = [V.ref a'] ∧ Dp K H (.ref a') d' ∧ d'.showable = true ∧ d'.hasDict = false ∧ d'.depth ≤ 60 ∧ d'.shown.length ≤ sizeLine ∧ R d' := by
  have sm := small_ks h hl
  exact go_repr (dKs ks) (.tup (sqT_of h1) (dp_ks ks)) sm.sh sm.nd (Nat.le_trans sm.dp (by decide)) sm.lv (Nat.le_trans sm.wt (by decide)) q
/-- a tuple of small numbers, its text never unfolded -/
@[irreducible] def dKi (ks : List Nat) : PyData := dKs ks
theorem repr_ki {K : PySem.W.Frag} {H : Hp} {R : PyData → Prop} {p : Addr} {ks : List Nat} (h1 : H p = some (.tup (ks.map fun k => V.int (k : Nat)))) (h : ∀ k ∈ ks, k ≤ 10000) (hl : ks.length ≤ 20) (q : R (dKi ks)) :
    ∃ (a' : Addr) (d' : PyData), [V.ref p] = [V.ref a'] ∧ Dp K H (.ref a') d' ∧ d'.showable = true ∧ d'.hasDict = false ∧ d'.depth ≤ 60 ∧ d'.shown.length ≤ sizeLine ∧ R d' := by
  unfold dKi at q
  exact repr_ks h1 h hl q

/-- figures in a tuple, many of them -/
theorem dig_all : ∀ l : List Nat, (∀ k ∈ l, k ≤ 9) → PyData.showableAll (l.map fun k => PyData.int (k : Nat)) = true ∧ PyData.hasDictAll (l.map fun k => PyData.int (k : Nat)) = false ∧ PyData.depthAll (l.map fun k => PyData.int (k : Nat)) = 0 ∧
    PyData.leavesShortAll 8 (l.map fun k => PyData.int (k : Nat)) = true ∧ PyData.weightAll (l.map fun k => PyData.int (k : Nat)) ≤ 21 * l.length
  | [], _ => by simp [PyData.showableAll, PyData.hasDictAll, PyData.depthAll, PyData.leavesShortAll, PyData.weightAll]
  | k :: l, h => by
    obtain ⟨h1, h2, h3, h4, h5⟩ := dig_all l fun e he => h e (List.mem_cons_of_mem _ he)
    have k9 := h k List.mem_cons_self
    obtain ⟨a, w, d⟩ := int_fit (i := (k : Int)) (by omega) (by omega)
    have a1 := a.sh
    have a4 := a.lv
    refine ⟨?_, ?_, ?_, ?_, ?_⟩
    · simp only [List.map_cons, PyData.showableAll, h1, a1, Bool.and_self]
    · simp [PyData.hasDictAll, PyData.hasDict, h2]
    · simp [PyData.depthAll, PyData.depth, h3]
    · simp only [List.map_cons, PyData.leavesShortAll, h4, a4, Bool.and_self]
    · simp only [List.map_cons, PyData.weightAll, List.length_cons]
      omega
@[irreducible] def dDg (l : List Nat) : PyData := dKs l
theorem repr_dg {K : PySem.W.Frag} {H : Hp} {R : PyData → Prop} {p : Addr} {l : List Nat} (h1 : H p = some (.tup (l.map fun k => V.int (k : Nat)))) (h : ∀ k ∈ l, k ≤ 9) (hl : l.length ≤ 40000) (q : R (dDg l)) :
    ∃ (a' : Addr) (d' : PyData), [V.ref p] = [V.ref a'] ∧ Dp K H (.ref a') d' ∧ d'.showable = true ∧ d'.hasDict = false ∧ d'.depth ≤ 60 ∧ d'.shown.length ≤ sizeLine ∧ R d' := by
  unfold dDg at q
  obtain ⟨g1, g2, g3, g4, g5⟩ := dig_all l h
  refine go_repr (dKs l) (.tup (sqT_of h1) (dp_ks l)) ?_ ?_ ?_ ?_ ?_ q
  · simp only [dKs, PyData.showable]; exact g1
  · simp only [dKs, PyData.hasDict]; exact g2
  · simp only [dKs, PyData.depth, g3]; decide
  · simp only [dKs, PyData.leavesShort]; exact g4
  · simp only [dKs, PyData.weight]; omega
@[irreducible] def dDg2 (l k : List Nat) : PyData := .list [dKs l, dKs k]
theorem repr_dg2 {K : PySem.W.Frag} {H : Hp} {R : PyData → Prop} {o p p' : Addr} {l k : List Nat} (h0 : H o = some (.lst [.ref p, .ref p'])) (h1 : H p = some (.tup (l.map fun k => V.int (k : Nat)))) (h2 : H p' = some (.tup (k.map fun k => V.int (k : Nat))))
    (hl9 : ∀ x ∈ l, x ≤ 9) (hk9 : ∀ x ∈ k, x ≤ 9) (hl : l.length ≤ 10000) (hk : k.length ≤ 10000) (q : R (dDg2 l k)) :
    ∃ (a' : Addr) (d' : PyData), [V.ref o] = [V.ref a'] ∧ Dp K H (.ref a') d' ∧ d'.showable = true ∧ d'.hasDict = false ∧ d'.depth ≤ 60 ∧ d'.shown.length ≤ sizeLine ∧ R d' := by
  unfold dDg2 at q
  obtain ⟨g1, g2, g3, g4, g5⟩ := dig_all l hl9
  obtain ⟨k1, k2, k3, k4, k5⟩ := dig_all k hk9
  refine go_repr (.list [dKs l, dKs k]) (.lst (.inl (.inl h0)) (.cons (.tup (sqT_of h1) (dp_ks l)) (.cons (.tup (sqT_of h2) (dp_ks k)) .nil))) ?_ ?_ ?_ ?_ ?_ q
  · simp only [dKs, PyData.showable, PyData.showableAll, g1, k1, Bool.and_self]
  · simp only [dKs, PyData.hasDict, PyData.hasDictAll, g2, k2, Bool.or_self]
  · simp only [dKs, PyData.depth, PyData.depthAll, g3, k3]; decide
  · simp only [dKs, PyData.leavesShort, PyData.leavesShortAll, g4, k4, Bool.and_self]
  · simp only [dKs, PyData.weight, PyData.weightAll]; omega

/-- two small numbers in a list -/
@[irreducible] def dI2 (a b : Nat) : PyData := .list [.int (a : Nat), .int (b : Nat)]
theorem repr_i2 {K : PySem.W.Frag} {H : Hp} {R : PyData → Prop} {o : Addr} {a b : Nat} (h0 : H o = some (.lst [.int (a : Nat), .int (b : Nat)])) (ha : a ≤ 10000) (hb : b ≤ 10000) (q : R (dI2 a b)) :
    ∃ (a' : Addr) (d' : PyData), [V.ref o] = [V.ref a'] ∧ Dp K H (.ref a') d' ∧ d'.showable = true ∧ d'.hasDict = false ∧ d'.depth ≤ 60 ∧ d'.shown.length ≤ sizeLine ∧ R d' := by
  unfold dI2 at q
  exact repr_items [.int (a : Nat), .int (b : Nat)] h0 (.cons (.int _) (.cons (.int _) .nil)) (List.forall_mem_cons.mpr ⟨small_int (by omega) (by omega), List.forall_mem_cons.mpr ⟨small_int (by omega) (by omega), fun _ z => by cases z⟩⟩) (by simp) q
end G1
/-! repr of whole data with dicts in it: address 1 is a dict of the base, so nothing that is tracked stands there -/
namespace G1
open PySem PySem.Spec PyProof.Rows L2
def HasSys (base : Heap) : Prop := ∃ mm, base.Ns sysModules mm
def kD : Key → PyData
  | .inl i => .int i
  | .inr x => .str x
mutual
inductive DpD (K : PySem.W.Frag) (H : Hp) : V → PyData → Prop
  | non : DpD K H .non .none
  | bl (b : Bool) : DpD K H (.bl b) (.bool b)
  | int (i : Int) : DpD K H (.int i) (.int i)
  | str (x : Str) : DpD K H (.str x) (.str x)
  | lst {a : Addr} {xs : List V} {ds : List PyData} : SqL K H a xs → DpDAll K H xs ds → DpD K H (.ref a) (.list ds)
  | tup {a : Addr} {xs : List V} {ds : List PyData} : SqT K H a xs → DpDAll K H xs ds → DpD K H (.ref a) (.tuple ds)
  | dct {a : Addr} {kvs : List (Key × V)} {ds : List (PyData × PyData)} : H a = some (.dK kvs) → DpDKv K H kvs ds → DpD K H (.ref a) (.dict ds)
inductive DpDAll (K : PySem.W.Frag) (H : Hp) : List V → List PyData → Prop
  | nil : DpDAll K H [] []
  | cons {v : V} {vs : List V} {d : PyData} {ds : List PyData} : DpD K H v d → DpDAll K H vs ds → DpDAll K H (v :: vs) (d :: ds)
inductive DpDKv (K : PySem.W.Frag) (H : Hp) : List (Key × V) → List (PyData × PyData) → Prop
  | nil : DpDKv K H [] []
  | cons {k : Key} {v : V} {kvs : List (Key × V)} {d : PyData} {ds : List (PyData × PyData)} : DpD K H v d → DpDKv K H kvs ds → DpDKv K H ((k, v) :: kvs) ((kD k, d) :: ds)
end
section
variable {X : Cx} {pins : List (Addr × Obj)} {σ : L2.St} {H : Hp} {s : Shared}
theorem sys_not {a : Addr} {o : Obj} {vs : Array Value} {n : Nat} (I : Inv X pins σ H s) (hb : HasSys X.base) (e : s.heap.get? a = some o) (d : o.data = .seq vs n) : a ≠ sysModules := by
  rintro rfl
  obtain ⟨mm, o', es, ep, e', d', _⟩ := hb
  rw [(I.bs _ o' e').1] at e
  cases e
  rw [d'] at d
  cases d
theorem key_reads {h : Heap} {k : Key} {v : Value} (e : keyIs k v = true) : Reads h v (kD k) [] := by
  rcases keyIs_shape e with ⟨i, t, rfl, rfl⟩ | ⟨x, t, rfl, rfl⟩
  · exact Reads.int i t
  · exact Reads.str x t
mutual
theorem DpD.reads (I : Inv X pins σ H s) (hb : HasSys X.base) : ∀ {v : V} {d : PyData} (u : Value), DpD X.K H v d → RelV v u → ∃ as, Reads s.heap u d as ∧ sysModules ∉ as
  | _, _, _, .non, r => by
    cases r
    exact ⟨_, Reads.none, List.not_mem_nil⟩
  | _, _, _, .bl b, r => by
    cases r
    exact ⟨_, Reads.bool b, List.not_mem_nil⟩
  | _, _, _, .int i, r => by
    obtain ⟨t, rfl⟩ := r
    exact ⟨_, Reads.int i t, List.not_mem_nil⟩
  | _, _, _, .str x, r => by
    obtain ⟨t, rfl⟩ := r
    exact ⟨_, Reads.str x t, List.not_mem_nil⟩
  | _, _, _, .lst hs ha, r => by
    cases r
    obtain ⟨its, rv, ⟨o, n, ho, hc, _, hd⟩, _⟩ := I.list hs
    obtain ⟨as, hr, hn⟩ := DpDAll.reads I hb its ha rv
    exact ⟨_, Reads.list ho hc hd hr, fun m => (List.mem_cons.mp m).elim (fun z => sys_not I hb ho hd z.symm) hn⟩
  | _, _, _, .tup hs ha, r => by
    cases r
    obtain ⟨its, rv, ⟨o, ho, hc, n, hd⟩, _⟩ := I.tuple hs
    obtain ⟨as, hr, hn⟩ := DpDAll.reads I hb its ha rv
    exact ⟨_, Reads.tuple ho hc hd hr, hn⟩
  | _, _, _, .dct hd hk, r => by
    cases r
    obtain ⟨_, ns, vs, kv, o, es, ep, ho, ex, hdat, _, pr, _⟩ := dk_of I.hok hd
    obtain ⟨⟨as, h1, n1⟩, bs, h2, n2⟩ := DpDKv.reads I hb _ _ hk kv pr
    refine ⟨_, Reads.dict ho ex.1 hdat h1 h2, ?_⟩
    intro m
    rcases List.mem_append.mp m with m | m
    · rcases List.mem_cons.mp m with z | z
      · rw [← z] at ns
        exact absurd ns (by decide)
      · exact n1 z
    · exact n2 m
theorem DpDAll.reads (I : Inv X pins σ H s) (hb : HasSys X.base) : ∀ {vs : List V} {ds : List PyData} (us : List Value), DpDAll X.K H vs ds → Vals vs us → ∃ as, ReadsAll s.heap us ds as ∧ sysModules ∉ as
  | _, _, _, .nil, r => by
    cases r
    exact ⟨_, ReadsAll.nil, List.not_mem_nil⟩
  | _, _, _, .cons h1 h2, r => by
    cases r with
    | cons r1 r2 =>
      obtain ⟨as, q1, n1⟩ := DpD.reads I hb _ h1 r1
      obtain ⟨bs, q2, n2⟩ := DpDAll.reads I hb _ h2 r2
      exact ⟨_, ReadsAll.cons q1 q2, fun m => (List.mem_append.mp m).elim n1 n2⟩
theorem DpDKv.reads (I : Inv X pins σ H s) (hb : HasSys X.base) : ∀ {kvs : List (Key × V)} {ds : List (PyData × PyData)} (vs : List (Key × Value)) (es : List DictEntry), DpDKv X.K H kvs ds → KV kvs vs → Pairs (mixKind X.prog X.w) es vs →
    (∃ as, ReadsAll s.heap (es.map (·.key)) (ds.map (·.1)) as ∧ sysModules ∉ as) ∧ ∃ bs, ReadsAll s.heap (es.map (·.val)) (ds.map (·.2)) bs ∧ sysModules ∉ bs
  | _, _, _, _, .nil, kv, pr => by
    cases kv
    cases pr
    exact ⟨⟨_, ReadsAll.nil, List.not_mem_nil⟩, _, ReadsAll.nil, List.not_mem_nil⟩
  | _, _, _, _, .cons h1 h2, kv, pr => by
    cases kv with
    | cons r kv2 =>
      cases pr with
      | cons e1 e2 pr2 =>
        obtain ⟨e0, rv⟩ := r
        obtain ⟨⟨as, q1, n1⟩, bs, q2, n2⟩ := DpDKv.reads I hb _ _ h2 kv2 pr2
        rw [← e2] at rv
        obtain ⟨cs, q3, n3⟩ := DpD.reads I hb _ h1 rv
        have e1' : keyIs _ _ = true := e1
        rw [← e0] at e1'
        exact ⟨⟨_, ReadsAll.cons (key_reads e1') q1, fun m => (List.mem_append.mp m).elim List.not_mem_nil n1⟩, _, ReadsAll.cons q3 q2, fun m => (List.mem_append.mp m).elim n3 n2⟩
end
/-- repr of a list, a tuple or a dict of data, dicts in it too -/
def rReprD (K : PySem.W.Frag) : List V → Hp → VK → Prop := fun xs H Q => ∃ (a : Addr) (d : PyData), xs = [.ref a] ∧ DpD K H (.ref a) d ∧ d.showable = true ∧ d.depth ≤ 60 ∧ d.shown.length ≤ sizeLine ∧ Q (.str d.shown) H
theorem call_reprDD (hb : HasSys X.base) (hgd : X.A.guards = some []) (hu : X.A.units + 64 < cLine) : CallR X (.builtin "repr") (rReprD X.K) := by
  intro pins s σ H xs us Q I r h
  obtain ⟨a, d, rfl, hd, hs, hdp, hz, q⟩ := h
  obtain ⟨u, rfl, ru⟩ := vals1 r
  obtain rfl : u = Value.ref a := ru
  obtain ⟨as, r1, hn⟩ := DpD.reads I hb (.ref a) hd rfl
  refine repr_of_reads' r1 hs (fun _ => hn) hgd (by omega) (fun _ _ e => e) (fun h' tu tk hk => ?_) hz
  refine ⟨.str d.shown, H, ?_, ⟨tu, rfl⟩, q⟩
  exact I.kept (t' := tk) hk
end
theorem enterGS {P : Program} {w : World} {K : PySem.W.Frag} {mg mb : Str → Option Value} {k : Nat} {fa a : Addr} {fd : FuncData} {x : Str} {sp : Sp} {s₁ : Shared} {vs : List Value} {ns : List Int}
    (inK : K.In s₁.heap) (hns : s₁.heap.Ns mainGlobals mg) (hbn : s₁.heap.Ns builtinsNs mb) (hbb : ∀ x : Str, x ≠ "__name__" → mb x = bootBuiltins x) (hlim : s₁.heap.NoLimit) (hsy : HasSys s₁.heap) (hg0 : s₁.gens = #[])
    (ha : s₁.heap.get? a = some { cls := .type "list", data := .seq vs.toArray }) (hi : IntsAre vs ns) (hl : ns.length ≤ sizeLine) (hr : Room k callerA)
    (F : ∀ base : Heap, K.In base → base.Ns mainGlobals mg → HasSys base → FnG P w K mg base k fa fd [x] sp)
    (hbind : ∀ (s : Shared) (u : Value), BindsTo s fd ⟨[u], []⟩ [(x, u)])
    (hsp : ∀ H : Hp, Only H → SqL K H a (ns.map V.int) → sp [.ref a] H (fun v _ => v = .bl true) fun _ _ _ => False) :
    codeAny (model P w) callerA (.call (.ref fa) ⟨[.ref a], []⟩)
      (fun r s' => r = .ok (.ret (.bool true)) ∧ OldK s₁.heap s'.heap ∧ s'.os = s₁.os ∧ AllBare s'.gens) s₁ := by
  have rv := vals_ints hi
  have lv := hi.length
  suffices core : ∀ H : Hp, Only H → SqL K H a (ns.map V.int) → HOk P w H s₁.heap → (∀ b, H b ≠ none → b = a ∧ K.lookup a = none) →
      codeAny (model P w) callerA (.call (.ref fa) ⟨[.ref a], []⟩)
        (fun r s' => r = .ok (.ret (.bool true)) ∧ OldK s₁.heap s'.heap ∧ s'.os = s₁.os ∧ AllBare s'.gens) s₁ by
    by_cases hk : K.lookup a = none
    · refine core (fun b => if b = a then some (.frz { cls := .type "list", data := .seq vs.toArray } (.lst (ns.map V.int))) else none) ?_ (Or.inl (Or.inr ⟨_, if_pos rfl⟩)) ?_ ?_
      · intro b
        by_cases hb : b = a
        · exact Or.inr ⟨_, _, if_pos hb⟩
        · exact Or.inl (if_neg hb)
      · intro b u z
        dsimp only at z
        by_cases hb : b = a
        · rw [if_pos hb] at z
          cases z
          subst hb
          exact ⟨ha, by rw [List.length_map]; exact hl, vs, _, rv, ha⟩
        · rw [if_neg hb] at z
          cases z
      · intro b z
        by_cases hb : b = a
        · exact ⟨hb, hk⟩
        · exact absurd (if_neg hb) z
    · obtain ⟨o, ho⟩ := Option.ne_none_iff_exists'.mp hk
      have e := inK a o ho
      rw [ha] at e
      cases e
      exact core (fun _ => none) (fun _ => Or.inl rfl) (Or.inr ⟨_, vs.toArray, _, ho, rfl, rfl, rfl, by rw [List.size_toArray, lv]; exact hl, by simpa using rv⟩)
        (fun b u z => by cases z) (fun b z => absurd rfl z)
  intro H hO hS hok hA
  have untr : ∀ {b : Addr} {o : Obj} {es : Array DictEntry} {ep : Nat}, s₁.heap.get? b = some o → o.data = .dict es ep → H b = none := by
    intro b o es ep e d
    by_cases q : H b = none
    · exact q
    · obtain ⟨rfl, _⟩ := hA b q
      rw [ha] at e
      cases e
      exact nomatch d
  have tohid : ∀ {b : Addr} {m : Str → Option Value}, s₁.heap.Ns b m → (hidT s₁.heap H).Ns b m := by
    rintro b m ⟨o, es, ep, e, d, r⟩
    exact ⟨o, es, ep, hidT_get e (untr e d), d, r⟩
  have hKb : K.In (hidT s₁.heap H) := by
    intro b o e
    refine hidT_get (inK b o e) ?_
    by_cases q : H b = none
    · exact q
    · obtain ⟨rfl, z⟩ := hA b q
      rw [z] at e
      cases e
  obtain ⟨mc, l1, l2⟩ := hlim
  have hM : Mod K mg (hidT s₁.heap H) := ⟨hKb, tohid hns, ⟨mb, tohid hbn, hbb⟩, ⟨mc, tohid l1, l2⟩⟩
  have e0 : Env0 P w K mg (hidT s₁.heap H) callerA [] s₁ H :=
    ⟨rfl, hM, fun b o e => of_hidT e, Nat.le_of_eq (hidT_size _ _), trivial, fun b hb => (List.not_mem_nil hb).elim, hok, .of_eq hg0⟩
  refine codeAny_mono ((F _ hKb (tohid hns) ⟨_, tohid hsy.choose_spec⟩).go callerA [] s₁ H ⟨[.ref a], []⟩ [.ref a] [.ref a] _ _ rfl hr e0 (hbind s₁ (.ref a)) (.cons rfl .nil) (hsp H hO hS)) ?_
  intro r s' h
  cases r with
  | error e => exact h.elim
  | ok fl =>
    cases fl with
    | next => exact h.elim
    | brk => exact h.elim
    | cont => exact h.elim
    | ret u =>
      obtain ⟨v, H', os, bare, un, hok', r', q⟩ := h
      subst q
      obtain rfl : u = Value.bool true := r'
      refine ⟨rfl, OldK.of_keep (fun b o e => ?_), os, bare⟩
      rcases hO b with z | ⟨ob, xs, z⟩
      · exact un.keep b o e z (fun y => (List.not_mem_nil y).elim) List.not_mem_nil
      · obtain ⟨e1, _⟩ := hok b _ z
        obtain ⟨e2, _⟩ := hok' b _ (un.frzs b ob _ z)
        rw [e] at e1
        cases e1
        exact e2

theorem walkGS {l : PySem.W.OpenLaw} {n k : Nat} {q : Program} {loose : List Str} {XP : (Str → Option Value) → Heap → Prop} {YP : World → Heap → Prop} {d : DefRec} {K : Params → PySem.W.Frag} {sp : PySem.W.Frag → Sp} {x : Str}
    (hq : importsNone q = true) (hn : l.most = some n) (hn2 : n ≤ sizeLine) (hdf : d.params.defaults = []) (hr : Room k callerA)
    (hY : ∀ (w : World) (h : Heap), YP w h → (K w.params).In h)
    (F : ∀ (w : World) (mg : Str → Option Value) (fa : Addr) (h : Heap), (K w.params).In h → h.Ns mainGlobals mg → mg d.name = some (.ref fa) →
      ∃ fd : FuncData, (∀ (s : Shared) (u : Value), BindsTo s fd ⟨[u], []⟩ [(x, u)]) ∧
        ∀ base : Heap, (K w.params).In base → base.Ns mainGlobals mg → HasSys base → FnG l.prog w (K w.params) mg base k fa fd [x] (sp (K w.params)))
    (hsp : ∀ (K : PySem.W.Frag) (H : Hp) (a : Addr) (ns : List Int), ns.length ≤ n → Only H → SqL K H a (ns.map V.int) → sp K [.ref a] H (fun v _ => v = .bl true) fun _ _ _ => False) :
    PySem.W.WalkO q loose XP YP l.row.toRowW d [] (fun f vs => PySem.call f vs) := by
  refine Att.attach_call hn hdf ?_
  intro w s₀ s₁ mg mb fa o pm cd doc a vs ns G Y ho hd hcd hmg hobj hints hlen hg0
  have inK := hY w _ Y
  obtain ⟨fd, hb, hF⟩ := F w mg fa _ inK G.T.g hmg
  exact enterGS inK G.T.g G.T.b G.T.builtins G.T.nolimit (let ⟨mm, y, _⟩ := (G.T.seer hq).mods; ⟨mm, y⟩) hg0 hobj hints (Nat.le_trans hlen hn2) hr hF hb (fun H hO hS => hsp _ H a ns hlen hO hS)
end G1
/-! texts of any signs: nothing but noughts and ones in them -/
namespace G1
open PySem PySem.Spec PyProof.Rows L2
def plainL (l : List Nat) : Bool := l.all fun k => k == 48 || k == 49
/-- nothing but 0 and 1 -/
def plainS (x : Str) : Bool := plainL x.cps.toList
theorem cnt_cons' (c k : Nat) (l : List Nat) : cnt c (k :: l) = (if k = c then 1 else 0) + cnt c l := by
  first | exact cnt_cons .. | (rw [cnt_cons]; done) | (rw [cnt_cons]; simp; done)
theorem cnt_plain : ∀ l : List Nat, (cnt 48 l + cnt 49 l = (l.length : Int) ↔ plainL l = true) ∧ cnt 48 l + cnt 49 l ≤ (l.length : Int)
  | [] => by
    have e : ∀ c, cnt c [] = 0 := fun c => rfl
    rw [e, e]
    simp [plainL]
  | k :: l => by
    obtain ⟨h1, h2⟩ := cnt_plain l
    rw [cnt_cons', cnt_cons', List.length_cons]
    have e : plainL (k :: l) = ((k == 48 || k == 49) && plainL l) := rfl
    by_cases a : k = 48
    · subst a
      rw [e, if_pos rfl, if_neg (by decide), show ((48 : Nat) == 48 || (48 : Nat) == 49) = true from rfl, Bool.true_and, ← h1]
      constructor
      · constructor <;> intro h <;> omega
      · omega
    · by_cases b : k = 49
      · subst b
        rw [e, if_neg (by decide), if_pos rfl, show ((49 : Nat) == 48 || (49 : Nat) == 49) = true from rfl, Bool.true_and, ← h1]
        constructor
        · constructor <;> intro h <;> omega
        · omega
      · rw [e, if_neg a, if_neg b, show (k == 48 || k == 49) = false by simp [a, b], Bool.false_and]
        constructor
        · constructor
          · intro h
            omega
          · intro h
            cases h
        · omega
theorem count_plain (x : Str) : Txt.count x ⟨#[48]⟩ + Txt.count x ⟨#[49]⟩ = (x.length : Int) ↔ plainS x = true := by
  rw [count_cnt, count_cnt]
  have e : (x.length : Int) = (x.cps.toList.length : Int) := by rw [Array.length_toList]; rfl
  rw [e]
  exact (cnt_plain x.cps.toList).1
theorem strike_plain (x : Str) : Txt.replace (Txt.replace x ⟨#[48]⟩ ⟨#[]⟩) ⟨#[49]⟩ ⟨#[]⟩ = ⟨#[]⟩ ↔ plainS x = true := by
  have e : (Txt.replace (Txt.replace x ⟨#[48]⟩ ⟨#[]⟩) ⟨#[49]⟩ ⟨#[]⟩).cps.toList = List.filter (fun y => y != 49) (List.filter (fun y => y != 48) x.cps.toList) :=
    (replace_strikes (Txt.replace x ⟨#[48]⟩ ⟨#[]⟩) 49).trans (by rw [replace_strikes])
  generalize Txt.replace (Txt.replace x ⟨#[48]⟩ ⟨#[]⟩) ⟨#[49]⟩ ⟨#[]⟩ = z at e
  obtain ⟨⟨zl⟩⟩ := z
  have e' : zl = List.filter (fun y => y != 49) (List.filter (fun y => y != 48) x.cps.toList) := e
  rw [show ((⟨⟨zl⟩⟩ : Str) = ⟨#[]⟩ ↔ zl = []) from ⟨fun h => by injection h with h; injection h, fun h => by rw [h]⟩, e', List.filter_filter, List.filter_eq_nil_iff]
  unfold plainS plainL
  rw [List.all_eq_true]
  constructor
  · intro h k hk
    have := h k hk
    simp at this ⊢
    omega
  · intro h k hk
    have := h k hk
    simp at this ⊢
    omega
end G1
/-! things of all kinds, apart from the well -/
namespace G1
open PySem PySem.Spec PyProof.Rows L2
mutual
inductive Th (w g : Addr) (H : Hp) : V → PyData → Prop
  | non : Th w g H .non .none
  | bl (b : Bool) : Th w g H (.bl b) (.bool b)
  | int (i : Int) : Th w g H (.int i) (.int i)
  | str (x : Str) : Th w g H (.str x) (.str x)
  | lst {a : Addr} {xs : List V} {ds : List PyData} : a ≠ w → a ≠ g → H a = some (.lst xs) → ThAll w g H xs ds → Th w g H (.ref a) (.list ds)
  | tup {a : Addr} {xs : List V} {ds : List PyData} : H a = some (.tup xs) → ThAll w g H xs ds → Th w g H (.ref a) (.tuple ds)
  | dct {a : Addr} {kvs : List (Key × V)} {ds : List (PyData × PyData)} : a ≠ w → a ≠ g → H a = some (.dK kvs) → ThKv w g H kvs ds → Th w g H (.ref a) (.dict ds)
inductive ThAll (w g : Addr) (H : Hp) : List V → List PyData → Prop
  | nil : ThAll w g H [] []
  | cons {v : V} {vs : List V} {d : PyData} {ds : List PyData} : Th w g H v d → ThAll w g H vs ds → ThAll w g H (v :: vs) (d :: ds)
inductive ThKv (w g : Addr) (H : Hp) : List (Key × V) → List (PyData × PyData) → Prop
  | nil : ThKv w g H [] []
  | cons {k : Key} {v : V} {kvs : List (Key × V)} {d : PyData} {ds : List (PyData × PyData)} : Th w g H v d → ThKv w g H kvs ds → ThKv w g H ((k, v) :: kvs) ((kD k, d) :: ds)
end
section
variable {w g : Addr} {H H' : Hp}
mutual
theorem Th.go (W : WellAt w g H) (s : Go w g H H') : ∀ {v : V} {d : PyData}, Th w g H v d → Th w g H' v d
  | _, _, .non => .non
  | _, _, .bl b => .bl b
  | _, _, .int i => .int i
  | _, _, .str x => .str x
  | _, _, .lst n1 n2 h t => .lst n1 n2 (s _ _ n1 n2 h) (ThAll.go W s t)
  | _, _, .tup h t => .tup ((W.tup h).go s).at_ (ThAll.go W s t)
  | _, _, .dct n1 n2 h t => .dct n1 n2 (s _ _ n1 n2 h) (ThKv.go W s t)
theorem ThAll.go (W : WellAt w g H) (s : Go w g H H') : ∀ {vs : List V} {ds : List PyData}, ThAll w g H vs ds → ThAll w g H' vs ds
  | _, _, .nil => .nil
  | _, _, .cons a b => .cons (Th.go W s a) (ThAll.go W s b)
theorem ThKv.go (W : WellAt w g H) (s : Go w g H H') : ∀ {vs : List (Key × V)} {ds : List (PyData × PyData)}, ThKv w g H vs ds → ThKv w g H' vs ds
  | _, _, .nil => .nil
  | _, _, .cons a b => .cons (Th.go W s a) (ThKv.go W s b)
end
mutual
theorem Th.toD {K : PySem.W.Frag} : ∀ {v : V} {d : PyData}, Th w g H v d → DpD K H v d
  | _, _, .non => .non
  | _, _, .bl b => .bl b
  | _, _, .int i => .int i
  | _, _, .str x => .str x
  | _, _, .lst _ _ h t => .lst (sqL_of h) (ThAll.toD t)
  | _, _, .tup h t => .tup (sqT_of h) (ThAll.toD t)
  | _, _, .dct _ _ h t => .dct h (ThKv.toD t)
theorem ThAll.toD {K : PySem.W.Frag} : ∀ {vs : List V} {ds : List PyData}, ThAll w g H vs ds → DpDAll K H vs ds
  | _, _, .nil => .nil
  | _, _, .cons a b => .cons (Th.toD a) (ThAll.toD b)
theorem ThKv.toD {K : PySem.W.Frag} : ∀ {vs : List (Key × V)} {ds : List (PyData × PyData)}, ThKv w g H vs ds → DpDKv K H vs ds
  | _, _, .nil => .nil
  | _, _, .cons a b => .cons (Th.toD a) (ThKv.toD b)
end
theorem Th.same {v : V} {d : PyData} (W : WellAt w g H) (t : Th w g H v d) (s : Same H H') : Th w g H' v d := t.go W (Go.of s)
theorem ThAll.length : ∀ {vs : List V} {ds : List PyData}, ThAll w g H vs ds → vs.length = ds.length
  | _, _, .nil => rfl
  | _, _, .cons _ b => by rw [List.length_cons, List.length_cons, ThAll.length b]
theorem ThAll.mem : ∀ {vs : List V} {ds : List PyData} {x : V}, ThAll w g H vs ds → x ∈ vs → ∃ d ∈ ds, Th w g H x d
  | _, _, _, .nil, h => by cases h
  | _, _, x, .cons a b, h => by
    rcases List.mem_cons.mp h with e | h
    · subst e
      exact ⟨_, List.mem_cons_self, a⟩
    · obtain ⟨d, h1, h2⟩ := ThAll.mem b h
      exact ⟨d, List.mem_cons_of_mem _ h1, h2⟩
def isTupD : PyData → Bool
  | .tuple _ => true
  | _ => false
def isStrD : PyData → Bool
  | .str _ => true
  | _ => false
theorem Th.isTup {K : PySem.W.Frag} {v : V} {d : PyData} (t : Th w g H v d) : ∃ ty, TyX K H v ty ∧ PySem.W.kitOne K ty (.type "tuple") = some (isTupD d) := by
  cases t with
  | non => exact ⟨_, .base .non, rfl⟩
  | bl b => exact ⟨_, .base (.bl b), rfl⟩
  | int i => exact ⟨_, .base (.int i), rfl⟩
  | str x => exact ⟨_, .base (.str x), rfl⟩
  | lst _ _ h _ => exact ⟨_, .base (.lst h), rfl⟩
  | tup h _ => exact ⟨_, .base (.tup h), rfl⟩
  | dct _ _ h _ => exact ⟨_, .base (.dK h), rfl⟩
theorem Th.isStr {K : PySem.W.Frag} {v : V} {d : PyData} (t : Th w g H v d) : ∃ ty, TyX K H v ty ∧ PySem.W.kitOne K ty (.type "str") = some (isStrD d) := by
  cases t with
  | non => exact ⟨_, .base .non, rfl⟩
  | bl b => exact ⟨_, .base (.bl b), rfl⟩
  | int i => exact ⟨_, .base (.int i), rfl⟩
  | str x => exact ⟨_, .base (.str x), rfl⟩
  | lst _ _ h _ => exact ⟨_, .base (.lst h), rfl⟩
  | tup h _ => exact ⟨_, .base (.tup h), rfl⟩
  | dct _ _ h _ => exact ⟨_, .base (.dK h), rfl⟩
end
end G1
/-! values of all kinds: how great they are, repr of any of them -/
namespace G1
open PySem PySem.Spec PyProof.Rows L2
/-! ### as the heap goes on -/
def TupOk (w g : Addr) (H : Hp) : Prop := ∀ a xs, H a = some (.tup xs) → a ≠ w ∧ a ≠ g
section
variable {w g : Addr} {H H' : Hp}
mutual
theorem Th.go2 (W : TupOk w g H) (s : Go w g H H') : ∀ {v : V} {d : PyData}, Th w g H v d → Th w g H' v d
  | _, _, .non => .non
  | _, _, .bl b => .bl b
  | _, _, .int i => .int i
  | _, _, .str x => .str x
  | _, _, .lst n1 n2 h t => .lst n1 n2 (s _ _ n1 n2 h) (ThAll.go2 W s t)
  | _, _, .tup h t => .tup (s _ _ (W _ _ h).1 (W _ _ h).2 h) (ThAll.go2 W s t)
  | _, _, .dct n1 n2 h t => .dct n1 n2 (s _ _ n1 n2 h) (ThKv.go2 W s t)
theorem ThAll.go2 (W : TupOk w g H) (s : Go w g H H') : ∀ {vs : List V} {ds : List PyData}, ThAll w g H vs ds → ThAll w g H' vs ds
  | _, _, .nil => .nil
  | _, _, .cons a b => .cons (Th.go2 W s a) (ThAll.go2 W s b)
theorem ThKv.go2 (W : TupOk w g H) (s : Go w g H H') : ∀ {vs : List (Key × V)} {ds : List (PyData × PyData)}, ThKv w g H vs ds → ThKv w g H' vs ds
  | _, _, .nil => .nil
  | _, _, .cons a b => .cons (Th.go2 W s a) (ThKv.go2 W s b)
end
mutual
theorem Th.same2 (s : Same H H') : ∀ {v : V} {d : PyData}, Th w g H v d → Th w g H' v d
  | _, _, .non => .non
  | _, _, .bl b => .bl b
  | _, _, .int i => .int i
  | _, _, .str x => .str x
  | _, _, .lst n1 n2 h t => .lst n1 n2 (s _ _ h) (ThAll.same2 s t)
  | _, _, .tup h t => .tup (s _ _ h) (ThAll.same2 s t)
  | _, _, .dct n1 n2 h t => .dct n1 n2 (s _ _ h) (ThKv.same2 s t)
theorem ThAll.same2 (s : Same H H') : ∀ {vs : List V} {ds : List PyData}, ThAll w g H vs ds → ThAll w g H' vs ds
  | _, _, .nil => .nil
  | _, _, .cons a b => .cons (Th.same2 s a) (ThAll.same2 s b)
theorem ThKv.same2 (s : Same H H') : ∀ {vs : List (Key × V)} {ds : List (PyData × PyData)}, ThKv w g H vs ds → ThKv w g H' vs ds
  | _, _, .nil => .nil
  | _, _, .cons a b => .cons (Th.same2 s a) (ThKv.same2 s b)
end
theorem ThAll.get {vs : List V} {ds : List PyData} (t : ThAll w g H vs ds) : ∀ {i : Nat} {v : V}, vs[i]? = some v → ∃ d, ds[i]? = some d ∧ Th w g H v d := by
  induction vs generalizing ds with
  | nil => intro i v h; simp at h
  | cons a vs ih =>
    cases t with
    | cons x xs =>
      intro i v h
      cases i with
      | zero =>
        obtain rfl := Option.some.inj h
        exact ⟨_, rfl, x⟩
      | succ i => exact ih xs h
theorem ThAll.append {vs us : List V} {ds es : List PyData} (t : ThAll w g H vs ds) (u : ThAll w g H us es) : ThAll w g H (vs ++ us) (ds ++ es) := by
  induction vs generalizing ds with
  | nil => cases t; exact u
  | cons a vs ih => cases t with | cons x xs => exact .cons x (ih xs)
theorem ThAll.take {vs : List V} {ds : List PyData} (t : ThAll w g H vs ds) : ∀ n, ThAll w g H (vs.take n) (ds.take n) := by
  induction vs generalizing ds with
  | nil => intro n; cases t; simp; exact .nil
  | cons a vs ih =>
    intro n
    cases t with
    | cons x xs =>
      cases n with
      | zero => exact .nil
      | succ n => exact .cons x (ih xs n)
theorem ThAll.drop {vs : List V} {ds : List PyData} (t : ThAll w g H vs ds) : ∀ n, ThAll w g H (vs.drop n) (ds.drop n) := by
  induction vs generalizing ds with
  | nil => intro n; cases t; simp; exact .nil
  | cons a vs ih =>
    intro n
    cases t with
    | cons x xs =>
      cases n with
      | zero => exact .cons x xs
      | succ n => exact ih xs n
theorem ThAll.rev {vs : List V} {ds : List PyData} (t : ThAll w g H vs ds) : ThAll w g H vs.reverse ds.reverse := by
  induction vs generalizing ds with
  | nil => cases t; exact .nil
  | cons a vs ih =>
    cases t with
    | cons x xs =>
      rw [List.reverse_cons, List.reverse_cons]
      exact (ih xs).append (.cons x .nil)
end
/-! ### how great they are -/
mutual
def Ok (B : Nat) : PyData → Prop
  | .none | .bool _ => True
  | .int i => i.natAbs ≤ B
  | .str x => ∀ c ∈ x.cps.toList, c < 16 ^ 8
  | .list xs | .tuple xs => OkAll B xs
  | .dict kvs => OkKv B kvs
def OkAll (B : Nat) : List PyData → Prop
  | [] => True
  | x :: xs => Ok B x ∧ OkAll B xs
def OkKv (B : Nat) : List (PyData × PyData) → Prop
  | [] => True
  | (k, v) :: r => Ok B k ∧ Ok B v ∧ OkKv B r
end
mutual
theorem Ok.mono {B C : Nat} (h : B ≤ C) : ∀ {d : PyData}, Ok B d → Ok C d
  | .none, _ => by simp [Ok]
  | .bool _, _ => by simp [Ok]
  | .int i, a => by simp only [Ok] at *; omega
  | .str x, a => by simp only [Ok] at *; exact a
  | .list xs, a => by simp only [Ok] at *; exact OkAll.mono h a
  | .tuple xs, a => by simp only [Ok] at *; exact OkAll.mono h a
  | .dict kvs, a => by simp only [Ok] at *; exact OkKv.mono h a
theorem OkAll.mono {B C : Nat} (h : B ≤ C) : ∀ {d : List PyData}, OkAll B d → OkAll C d
  | [], _ => by simp [OkAll]
  | x :: xs, a => by
    simp only [OkAll] at *
    exact ⟨Ok.mono h a.1, OkAll.mono h a.2⟩
theorem OkKv.mono {B C : Nat} (h : B ≤ C) : ∀ {d : List (PyData × PyData)}, OkKv B d → OkKv C d
  | [], _ => by simp [OkKv]
  | (k, v) :: r, a => by
    simp only [OkKv] at *
    exact ⟨Ok.mono h a.1, Ok.mono h a.2.1, OkKv.mono h a.2.2⟩
end
theorem okAll_iff {B : Nat} : ∀ {ds : List PyData}, OkAll B ds ↔ ∀ d ∈ ds, Ok B d
  | [] => by simp [OkAll]
  | x :: xs => by
    simp only [OkAll, List.mem_cons, forall_eq_or_imp]
    rw [okAll_iff]
theorem ok_tup {B : Nat} {ds : List PyData} : Ok B (.tuple ds) ↔ ∀ d ∈ ds, Ok B d := by simp only [Ok]; exact okAll_iff
theorem ok_lst {B : Nat} {ds : List PyData} : Ok B (.list ds) ↔ ∀ d ∈ ds, Ok B d := by simp only [Ok]; exact okAll_iff
theorem log_of {i : Int} {B : Nat} (h : i.natAbs ≤ B) (hB : B < 10 ^ 38) : i.natAbs.log2 < 1920 := by
  by_cases z : i.natAbs = 0
  · rw [z]; decide
  · exact (Nat.log2_lt z).mpr (Nat.lt_of_le_of_lt h (Nat.lt_trans hB (by decide)))
mutual
theorem Ok.shows {B : Nat} (hB : B < 10 ^ 38) : ∀ {d : PyData}, Ok B d → d.showable = true ∧ d.leavesShort 40 = true
  | .none, _ => ⟨rfl, rfl⟩
  | .bool _, _ => ⟨rfl, rfl⟩
  | .int i, a => by
    simp only [Ok] at a
    refine ⟨by simp only [PyData.showable]; exact decide_eq_true (log_of a hB), ?_⟩
    simp only [PyData.leavesShort]
    refine decide_eq_true ?_
    have := int_text_length_le10 (a := i) (k := 38) (by decide) (by omega)
    show (Str.ofString (toString i)).length ≤ 40
    rw [PySem.ofString_length]
    omega
  | .str x, a => by
    simp only [Ok] at a
    refine ⟨rfl, ?_⟩
    simp only [PyData.leavesShort, List.all_eq_true, decide_eq_true_eq]
    exact a
  | .list xs, a => by
    simp only [Ok] at a
    simp only [PyData.showable, PyData.leavesShort]
    exact OkAll.shows hB a
  | .tuple xs, a => by
    simp only [Ok] at a
    simp only [PyData.showable, PyData.leavesShort]
    exact OkAll.shows hB a
  | .dict kvs, a => by
    simp only [Ok] at a
    simp only [PyData.showable, PyData.leavesShort]
    exact OkKv.shows hB a
theorem OkAll.shows {B : Nat} (hB : B < 10 ^ 38) : ∀ {d : List PyData}, OkAll B d → PyData.showableAll d = true ∧ PyData.leavesShortAll 40 d = true
  | [], _ => ⟨rfl, rfl⟩
  | x :: xs, a => by
    simp only [OkAll] at a
    obtain ⟨h1, h2⟩ := Ok.shows hB a.1
    obtain ⟨h3, h4⟩ := OkAll.shows hB a.2
    simp only [PyData.showableAll, PyData.leavesShortAll, h1, h2, h3, h4, Bool.and_self, and_self]
theorem OkKv.shows {B : Nat} (hB : B < 10 ^ 38) : ∀ {d : List (PyData × PyData)}, OkKv B d → PyData.showableKv d = true ∧ PyData.leavesShortKv 40 d = true
  | [], _ => ⟨rfl, rfl⟩
  | (k, v) :: r, a => by
    simp only [OkKv] at a
    obtain ⟨h1, h2⟩ := Ok.shows hB a.1
    obtain ⟨h3, h4⟩ := Ok.shows hB a.2.1
    obtain ⟨h5, h6⟩ := OkKv.shows hB a.2.2
    simp only [PyData.showableKv, PyData.leavesShortKv, h1, h2, h3, h4, h5, h6, Bool.and_self, and_self]
end
/-! ### weights and depths of items put together -/
theorem weight_app : ∀ (a b : List PyData), PyData.weightAll (a ++ b) = PyData.weightAll a + PyData.weightAll b
  | [], b => by simp [PyData.weightAll]
  | x :: a, b => by
    simp only [List.cons_append, PyData.weightAll, weight_app a b]
    omega
theorem weight_take (a : List PyData) (n : Nat) : PyData.weightAll (a.take n) + PyData.weightAll (a.drop n) = PyData.weightAll a := by
  rw [← weight_app, List.take_append_drop]
theorem weight_rev : ∀ a : List PyData, PyData.weightAll a.reverse = PyData.weightAll a
  | [] => rfl
  | x :: a => by
    rw [List.reverse_cons, weight_app, weight_rev a]
    simp only [PyData.weightAll]
    omega
theorem weight_one (x : PyData) : PyData.weightAll [x] = x.weight + 1 := by simp [PyData.weightAll]
theorem depth_all_le {n : Nat} : ∀ {a : List PyData}, PyData.depthAll a ≤ n ↔ ∀ d ∈ a, d.depth ≤ n
  | [] => by simp [PyData.depthAll]
  | x :: a => by
    simp only [PyData.depthAll, List.mem_cons, forall_eq_or_imp]
    rw [← depth_all_le (a := a)]
    omega
/-! ### repr of any value -/
def rReprT (K : PySem.W.Frag) : List V → Hp → VK → Prop := fun xs H Q => ∃ (v : V) (d : PyData), xs = [v] ∧ DpD K H v d ∧ d.showable = true ∧ d.depth ≤ 60 ∧ d.shown.length ≤ sizeLine ∧ Q (.str d.shown) H
section
variable {X : Cx}
theorem call_reprT (hb : HasSys X.base) (hgd : X.A.guards = some []) (hu : X.A.units + 64 < cLine) : CallR X (.builtin "repr") (rReprT X.K) := by
  intro pins s σ H xs us Q I r h
  obtain ⟨v, d, rfl, hd, hs, hdp, hz, q⟩ := h
  cases hd with
  | non =>
    obtain ⟨u, rfl, ru⟩ := vals1 r
    obtain rfl : u = Value.none := ru
    exact PySem.P.repr_of_none ⟨.str _, H, I.tok _, ⟨_, rfl⟩, q⟩
  | bl b =>
    obtain ⟨u, rfl, ru⟩ := vals1 r
    obtain rfl : u = Value.bool b := ru
    refine PySem.P.repr_of_bool ⟨.str _, H, I.tok _, ⟨_, rfl⟩, ?_⟩
    cases b <;> exact q
  | int i =>
    obtain ⟨u, rfl, ru⟩ := vals1 r
    obtain ⟨t, rfl⟩ := ru
    have hi : i.natAbs.log2 < 1920 := by simpa only [PyData.showable, decide_eq_true_eq] using hs
    exact PySem.P.repr_of_int hi ⟨.str _, H, I.tok _, ⟨_, rfl⟩, q⟩
  | str x =>
    obtain ⟨u, rfl, ru⟩ := vals1 r
    obtain ⟨t, rfl⟩ := ru
    exact PySem.P.repr_of_str ⟨.str _, H, I.tok _, ⟨_, rfl⟩, q⟩ hz
  | lst h1 h2 => exact call_reprDD hb hgd hu pins s σ H _ us Q I r ⟨_, _, rfl, .lst h1 h2, hs, hdp, hz, q⟩
  | tup h1 h2 => exact call_reprDD hb hgd hu pins s σ H _ us Q I r ⟨_, _, rfl, .tup h1 h2, hs, hdp, hz, q⟩
  | dct h1 h2 => exact call_reprDD hb hgd hu pins s σ H _ us Q I r ⟨_, _, rfl, .dct h1 h2, hs, hdp, hz, q⟩
end
/-- repr of a value that is not too great -/
theorem repr_val {K : PySem.W.Frag} {H : Hp} {R : PyData → Prop} {v : V} {d : PyData} {B : Nat} (hd : DpD K H v d) (ok : Ok B d) (hB : B < 10 ^ 38) (hw : d.weight ≤ 300000) (hdp : d.depth ≤ 60) (q : R d) :
    ∃ (v' : V) (d' : PyData), [v] = [v'] ∧ DpD K H v' d' ∧ d'.showable = true ∧ d'.depth ≤ 60 ∧ d'.shown.length ≤ sizeLine ∧ R d' := by
  obtain ⟨h1, h2⟩ := ok.shows hB
  have s := PyData.shown_le 40 (by decide) d h2
  exact ⟨v, d, rfl, hd, h1, hdp, Nat.le_trans s (Nat.le_trans (by omega : _ ≤ 42 * 300000 + 40) (by decide)), q⟩
/-! ### kinds -/
def isIntD : PyData → Bool
  | .int _ | .bool _ => true
  | _ => false
def isBoolD : PyData → Bool
  | .bool _ => true
  | _ => false
section
variable {w g : Addr} {H : Hp}
theorem Th.isInt {K : PySem.W.Frag} {v : V} {d : PyData} (t : Th w g H v d) : ∃ ty, TyX K H v ty ∧ PySem.W.kitOne K ty (.type "int") = some (isIntD d) := by
  cases t with
  | non => exact ⟨_, .base .non, rfl⟩
  | bl b => exact ⟨_, .base (.bl b), rfl⟩
  | int i => exact ⟨_, .base (.int i), rfl⟩
  | str x => exact ⟨_, .base (.str x), rfl⟩
  | lst _ _ h _ => exact ⟨_, .base (.lst h), rfl⟩
  | tup h _ => exact ⟨_, .base (.tup h), rfl⟩
  | dct _ _ h _ => exact ⟨_, .base (.dK h), rfl⟩
theorem Th.isBool {K : PySem.W.Frag} {v : V} {d : PyData} (t : Th w g H v d) : ∃ ty, TyX K H v ty ∧ PySem.W.kitOne K ty (.type "bool") = some (isBoolD d) := by
  cases t with
  | non => exact ⟨_, .base .non, rfl⟩
  | bl b => exact ⟨_, .base (.bl b), rfl⟩
  | int i => exact ⟨_, .base (.int i), rfl⟩
  | str x => exact ⟨_, .base (.str x), rfl⟩
  | lst _ _ h _ => exact ⟨_, .base (.lst h), rfl⟩
  | tup h _ => exact ⟨_, .base (.tup h), rfl⟩
  | dct _ _ h _ => exact ⟨_, .base (.dK h), rfl⟩
end
end G1
/-! truths among the numbers; how great data are that are put together; things laid one after another -/
namespace G1
open PySem PySem.Spec PyProof.Rows L2
section
variable {X : Cx}
theorem op_addX : OpR X (binaryOp .Add) (fun x y H Q => (∃ i j, x = .int i ∧ y = .int j ∧ Q (.int (i + j)) H) ∨ ∃ b j, x = .bl b ∧ y = .int j ∧ Q (.int ((if b = true then (1 : Int) else 0) + j)) H) := by
  intro pins s σ H x y v u Q I rx ry h
  rcases h with ⟨i, j, rfl, rfl, q⟩ | ⟨b, j, rfl, rfl, q⟩
  · obtain ⟨t, rfl⟩ := rx
    obtain ⟨t', rfl⟩ := ry
    exact add_int ⟨.int _, H, I.tok _, ⟨_, rfl⟩, q⟩
  · cases rx
    obtain ⟨t', rfl⟩ := ry
    exact PySem.IntBool.add_bool_int ⟨.int _, H, I.tok _, ⟨_, rfl⟩, q⟩
theorem op_subX : OpR X (binaryOp .Sub) (fun x y H Q => (∃ i j, x = .int i ∧ y = .int j ∧ Q (.int (i - j)) H) ∨ (∃ b j, x = .bl b ∧ y = .int j ∧ Q (.int ((if b = true then (1 : Int) else 0) - j)) H) ∨
    ∃ i b, x = .int i ∧ y = .bl b ∧ Q (.int (i - if b = true then (1 : Int) else 0)) H) := by
  intro pins s σ H x y v u Q I rx ry h
  rcases h with ⟨i, j, rfl, rfl, q⟩ | ⟨b, j, rfl, rfl, q⟩ | ⟨i, b, rfl, rfl, q⟩
  · obtain ⟨t, rfl⟩ := rx
    obtain ⟨t', rfl⟩ := ry
    exact sub_int ⟨.int _, H, I.tok _, ⟨_, rfl⟩, q⟩
  · cases rx
    obtain ⟨t', rfl⟩ := ry
    exact PySem.IntBool.sub_bool_int ⟨.int _, H, I.tok _, ⟨_, rfl⟩, q⟩
  · obtain ⟨t, rfl⟩ := rx
    cases ry
    exact PySem.IntBool.sub_int_bool ⟨.int _, H, I.tok _, ⟨_, rfl⟩, q⟩
theorem call_strX : CallR X (.type "str") (fun xs H Q => (∃ i, xs = [.int i] ∧ i.natAbs.log2 < 1920 ∧ Q (.str (toString i)) H) ∨ ∃ b, xs = [.bl b] ∧ Q (.str (if b then "True" else "False")) H) := by
  intro pins s σ H xs us Q I r h
  rcases h with ⟨i, rfl, hz, q⟩ | ⟨b, rfl, q⟩
  · obtain ⟨u, rfl, t, rfl⟩ := vals1 r
    exact PySem.P.str_of_int hz ⟨.str _, H, I.tok _, ⟨_, rfl⟩, q⟩
  · obtain ⟨u, rfl, r1⟩ := vals1 r
    cases r1
    exact PySem.P.str_of_bool ⟨.str _, H, I.tok _, ⟨_, rfl⟩, q⟩
end
/-! ### how great -/
def cutD (ds : List PyData) (lo hi : Option Int) : List PyData := (ds.drop (HT.sIx ds.length 0 lo)).take (HT.sIx ds.length ds.length hi - HT.sIx ds.length 0 lo)
theorem ThAll.cut {w g : Addr} {H : Hp} {xs : List V} {ds : List PyData} (t : ThAll w g H xs ds) (lo hi : Option Int) : ThAll w g H (cutV xs lo hi) (cutD ds lo hi) := by
  unfold cutV cutD
  rw [t.length]
  exact (t.drop _).take _
structure Bd (B W D : Nat) (d : PyData) : Prop where
  ok : Ok B d
  wt : d.weight ≤ W
  dp : d.depth ≤ D
structure BdL (B W D : Nat) (ds : List PyData) : Prop where
  ok : ∀ d ∈ ds, Ok B d
  wt : PyData.weightAll ds ≤ W
  dp : ∀ d ∈ ds, d.depth ≤ D
section
variable {B W D B' W' D' : Nat} {d : PyData} {ds es : List PyData}
theorem Bd.mono (x : Bd B W D d) (h1 : B ≤ B') (h2 : W ≤ W') (h3 : D ≤ D') : Bd B' W' D' d := ⟨x.ok.mono h1, Nat.le_trans x.wt h2, Nat.le_trans x.dp h3⟩
theorem BdL.mono (x : BdL B W D ds) (h1 : B ≤ B') (h2 : W ≤ W') (h3 : D ≤ D') : BdL B' W' D' ds := ⟨fun d h => (x.ok d h).mono h1, Nat.le_trans x.wt h2, fun d h => Nat.le_trans (x.dp d h) h3⟩
theorem BdL.tup (x : BdL B W D ds) : Bd B W (D + 1) (.tuple ds) := ⟨ok_tup.mpr x.ok, by simpa [PyData.weight] using x.wt, by simp only [PyData.depth]; have := depth_all_le.mpr x.dp; omega⟩
theorem BdL.lst (x : BdL B W D ds) : Bd B W (D + 1) (.list ds) := ⟨ok_lst.mpr x.ok, by simpa [PyData.weight] using x.wt, by simp only [PyData.depth]; have := depth_all_le.mpr x.dp; omega⟩
theorem Bd.un (x : Bd B W D (.tuple ds)) : 1 ≤ D ∧ BdL B W (D - 1) ds := by
  obtain ⟨h1, h2, h3⟩ := x
  simp only [PyData.weight] at h2
  simp only [PyData.depth] at h3
  exact ⟨by omega, ok_tup.mp h1, h2, depth_all_le.mp (by omega)⟩
theorem wt_drop (ds : List PyData) (n : Nat) : PyData.weightAll (ds.drop n) ≤ PyData.weightAll ds := by have := weight_take ds n; omega
theorem wt_take (ds : List PyData) (n : Nat) : PyData.weightAll (ds.take n) ≤ PyData.weightAll ds := by have := weight_take ds n; omega
theorem BdL.cut (x : BdL B W D ds) (lo hi : Option Int) : BdL B W D (cutD ds lo hi) := by
  unfold cutD
  exact ⟨fun d h => x.ok d (List.mem_of_mem_drop (List.mem_of_mem_take h)), Nat.le_trans (wt_take _ _) (Nat.le_trans (wt_drop _ _) x.wt), fun d h => x.dp d (List.mem_of_mem_drop (List.mem_of_mem_take h))⟩
theorem BdL.app (x : BdL B W D ds) (y : BdL B W' D es) : BdL B (W + W') D (ds ++ es) := by
  refine ⟨fun d h => (List.mem_append.mp h).elim (x.ok d) (y.ok d), ?_, fun d h => (List.mem_append.mp h).elim (x.dp d) (y.dp d)⟩
  rw [weight_app]
  have := x.wt
  have := y.wt
  omega
theorem BdL.one (x : Bd B W D d) : BdL B (W + 1) D [d] := by
  refine ⟨fun e h => ?_, ?_, fun e h => ?_⟩
  · rw [List.mem_singleton] at h
    exact h ▸ x.ok
  · rw [weight_one]
    have := x.wt
    omega
  · rw [List.mem_singleton] at h
    exact h ▸ x.dp
theorem BdL.rev (x : BdL B W D ds) : BdL B W D ds.reverse := ⟨fun d h => x.ok d (List.mem_reverse.mp h), by rw [weight_rev]; exact x.wt, fun d h => x.dp d (List.mem_reverse.mp h)⟩
theorem wt_mem : ∀ {ds : List PyData}, d ∈ ds → d.weight + 1 ≤ PyData.weightAll ds
  | [], h => by cases h
  | e :: ds, h => by
    simp only [PyData.weightAll]
    rcases List.mem_cons.mp h with rfl | h
    · omega
    · have := wt_mem h
      omega
theorem wt_len : ∀ ds : List PyData, ds.length ≤ PyData.weightAll ds
  | [] => Nat.zero_le _
  | e :: ds => by
    simp only [PyData.weightAll, List.length_cons]
    have := wt_len ds
    omega
theorem BdL.mem (x : BdL B W D ds) (h : d ∈ ds) : Bd B W D d := ⟨x.ok d h, by have := wt_mem h; have := x.wt; omega, x.dp d h⟩
theorem BdL.len (x : BdL B W D ds) : ds.length ≤ W := Nat.le_trans (wt_len ds) x.wt
theorem log_wt {i : Int} {k : Nat} (h : i.natAbs < 2 ^ k) : PyData.weight (.int i) ≤ k := by
  show (if i == 0 then 0 else i.natAbs.log2 + 1) ≤ k
  split
  · omega
  · have z : i.natAbs ≠ 0 := fun e => by
      rename_i hz
      exact hz (by rw [Int.natAbs_eq_zero.mp e]; rfl)
    have := (Nat.log2_lt z).mpr h
    omega
theorem bd_int {i : Int} (h : i.natAbs ≤ B) (hB : B < 10 ^ 38) : Bd B 127 0 (.int i) := ⟨by simp only [Ok]; exact h, log_wt (Nat.lt_of_le_of_lt h (Nat.lt_trans hB (by decide))), by simp [PyData.depth]⟩
theorem bd_bl (b : Bool) : Bd B 0 0 (.bool b) := ⟨by simp [Ok], by simp [PyData.weight], by simp [PyData.depth]⟩
theorem bd_non : Bd B 0 0 .none := ⟨by simp [Ok], by simp [PyData.weight], by simp [PyData.depth]⟩
theorem cps_small (s : String) : ∀ c ∈ (Str.ofString s).cps.toList, c < 16 ^ 8 := by
  intro c hc
  rw [Str.ofString_eq_toList] at hc
  obtain ⟨x, _, rfl⟩ := List.mem_map.mp hc
  have h := x.valid
  have : x.toNat < 0x110000 := by
    rcases h with h | ⟨_, h⟩
    · exact Nat.lt_trans h (by decide)
    · exact h
  exact Nat.lt_trans this (by decide)
theorem bd_str (s : String) (h : (Str.ofString s).length ≤ W) : Bd B W 0 (.str (Str.ofString s)) := ⟨by simp only [Ok]; exact cps_small s, h, by simp [PyData.depth]⟩
end
/-! ### things laid one after another -/
section
variable {m : Str} {w g c p : Addr} {H0 H H' : Hp} {vs us : List V} {ds es : List PyData}
theorem DkC.tups (W : DkC m w g c H) : TupOk w g H := fun a xs h => ⟨(W.tup h).nw, (W.tup h).ng⟩
theorem ThAll.hd {v : V} {d : PyData} (t : ThAll w g H (v :: vs) (d :: ds)) : Th w g H v d := by cases t; assumption
theorem ThAll.tl {v : V} {d : PyData} (t : ThAll w g H (v :: vs) (d :: ds)) : ThAll w g H vs ds := by cases t; assumption
/-- the state of a def that lays things: since H0 nothing but the deck has changed, the deck stands, vs are things -/
structure Ly (m : Str) (w g c : Addr) (H0 H : Hp) (vs : List V) (ds : List PyData) : Prop where
  go : Go w g H0 H
  dk : DkC m w g c H
  th : ThAll w g H vs ds
theorem Ly.nil (W : DkC m w g c H) : Ly m w g c H H [] [] := ⟨fun _ _ _ _ e => e, W, .nil⟩
theorem Ly.same (y : Ly m w g c H0 H vs ds) (s : Same H H') : Ly m w g c H0 H' vs ds := ⟨y.go.trans (Go.of s), y.dk.same s, y.th.same2 s⟩
theorem Ly.goes (y : Ly m w g c H0 H vs ds) (s : Go w g H H') (W : DkC m w g c H') : Ly m w g c H0 H' vs ds := ⟨y.go.trans s, W, y.th.go2 y.dk.tups s⟩
theorem Ly.more {v : V} {d : PyData} (y : Ly m w g c H0 H vs ds) (t : Th w g H v d) : Ly m w g c H0 H (v :: vs) (d :: ds) := ⟨y.go, y.dk, .cons t y.th⟩
theorem Ly.addAll (y : Ly m w g c H0 H vs ds) (t : ThAll w g H us es) : Ly m w g c H0 H (us ++ vs) (es ++ ds) := ⟨y.go, y.dk, t.append y.th⟩
/-- a new tuple -/
theorem Ly.newT {ts : List V} {ks : List PyData} (y : Ly m w g c H0 H vs ds) (np : H p = none) (hU : upd H p (.tup ts) = H') (t : ThAll w g H ts ks) : Ly m w g c H0 H' (.ref p :: vs) (.tuple ks :: ds) := by
  obtain ⟨s, W, a⟩ := new_ofC y.dk np hU
  exact ⟨y.go.trans (Go.of s), W, .cons (.tup a.at_ (t.same2 s)) (y.th.same2 s)⟩
/-- a new list -/
theorem Ly.newL {ts : List V} {ks : List PyData} (y : Ly m w g c H0 H vs ds) (np : H p = none) (hU : upd H p (.lst ts) = H') (t : ThAll w g H ts ks) : Ly m w g c H0 H' (.ref p :: vs) (.list ks :: ds) := by
  obtain ⟨s, W, a⟩ := new_ofC y.dk np hU
  exact ⟨y.go.trans (Go.of s), W, .cons (.lst a.nw a.ng a.at_ (t.same2 s)) (y.th.same2 s)⟩
/-- a new list of things that is no thing to keep: apart from the deck -/
theorem Ly.newA {ts : List V} (y : Ly m w g c H0 H vs ds) (np : H p = none) (hU : upd H p (.lst ts) = H') : Ly m w g c H0 H' vs ds ∧ Ac w g c H' p (.lst ts) := by
  obtain ⟨s, W, a⟩ := new_ofC y.dk np hU
  exact ⟨⟨y.go.trans (Go.of s), W, y.th.same2 s⟩, a⟩
theorem Ly.newD {kvs : List (Key × V)} {ks : List (PyData × PyData)} (y : Ly m w g c H0 H vs ds) (np : H p = none) (hU : upd H p (.dK kvs) = H') (t : ThKv w g H kvs ks) : Ly m w g c H0 H' (.ref p :: vs) (.dict ks :: ds) := by
  obtain ⟨s, W, a⟩ := new_ofC y.dk np hU
  exact ⟨y.go.trans (Go.of s), W, .cons (.dct a.nw a.ng a.at_ (ThKv.same2 s t)) (y.th.same2 s)⟩
/-- a tuple that stands there -/
theorem Ly.oldT {ts : List V} {ks : List PyData} (y : Ly m w g c H0 H vs ds) (hp : H p = some (.tup ts)) (t : ThAll w g H ts ks) : Ly m w g c H0 H (.ref p :: vs) (.tuple ks :: ds) := y.more (.tup hp t)
end
end G1
namespace G67
open PySem PySem.Spec PyProof.Rows L2 G1 Sq
local macro_rules | `(tactic| walk_at "side") => `(tactic| first
  | assumption
  | omega
  | (constructor <;> omega)
  | rfl
  | decide
  | (dsimp only; decide)
  | (refine szl ?_; simp only [List.length_cons, List.length_nil]; omega)
  | (unfold CMul; omega)
  | (unfold CDiv; omega)
  | (unfold CPow; omega)
  | (unfold CMul; simp; done)
  | (unfold CMul; simp; omega)
  | (simp only [List.length_map, List.length_append, List.length_take, List.length_drop, rep_length, List.length_cons, List.length_nil, Nat.zero_add, Nat.mul_one]; omega))
local macro_rules | `(tactic| walk_at "go1") => `(tactic| first
  | (apply go_bit; (focus walk_at "side"); rw [B_str _ (by walk_at "side") (by walk_at "side")])
  | (apply go_lenS; (focus walk_at "side"); simp only [B_len])
  | (apply go_addS; (focus walk_at "side"); rw [B_app])
  | (apply go_mulS; (focus walk_at "side"); (focus walk_at "side"); rw [B_mul _ (by walk_at "side")])
  | (apply go_sl; (focus walk_at "side"); first | rw [B_last] | rw [B_init] | rw [B_to _ (by walk_at "side")] | rw [B_from _ (by walk_at "side")] | rw [B_mid _ (by walk_at "side") (by walk_at "side")])
  | (apply goC_sl; (focus walk_at "side"); first | rw [C_to _ (by walk_at "side")] | rw [C_from _ (by walk_at "side")] | rw [C_mid _ (by walk_at "side") (by walk_at "side")])
  | (apply goC_mulS; (focus walk_at "side"); (focus walk_at "side"); rw [C_mul _ (by walk_at "side")])
  | refine ⟨_, rfl, ?_⟩
  | refine ⟨_, _, rfl, rfl, ?_⟩
  | refine ⟨_, _, _, rfl, rfl, ?_⟩
  | refine ⟨_, _, rfl, ?_⟩
  | refine ⟨_, _, _, rfl, ?_⟩
  | (apply go_tup; assumption)
  | (apply go_unl; assumption)
  | (apply go_ixL; assumption; (first | rfl | assumption))
  | (apply go_ixT; assumption; (first | rfl | assumption))
  | (apply go_lenL; assumption)
  | (apply go_lenT; assumption)
  | refine Or.inl ⟨_, rfl, ?_⟩
  | (refine And.intro ?ll ?_; (case ll => walk_at "side")))
local macro_rules | `(tactic| walk_at "go") => `(tactic| repeat (walk_at "go1"))
def topS (i : Nat) : Stmt := PySem.Challenge.pw_leastmakers_k67_rules_judged.main.body.getD i (.Pass ⟨0, 0, 0, 0⟩)
abbrev s_is_whole : Stmt := topS 1
abbrev nm_is_whole : List Str := ["value", "low", "high"]
theorem sc_is_whole : FnScope nm_is_whole ["value", "low", "high"] (defScope s_is_whole) := ⟨rfl, rfl, rfl, by decide +kernel, rfl, by decide +kernel, by decide +kernel⟩
abbrev s_is_triple : Stmt := topS 2
abbrev nm_is_triple : List Str := ["value"]
theorem sc_is_triple : FnScope nm_is_triple ["value"] (defScope s_is_triple) := ⟨rfl, rfl, rfl, by decide +kernel, rfl, by decide +kernel, by decide +kernel⟩
abbrev s_are_below : Stmt := topS 3
abbrev nm_are_below : List Str := ["modulus", "value", "item"]
theorem sc_are_below : FnScope nm_are_below ["modulus", "value"] (defScope s_are_below) := ⟨rfl, rfl, rfl, by decide +kernel, rfl, by decide +kernel, by decide +kernel⟩
abbrev s_power : Stmt := topS 4
abbrev nm_power : List Str := ["base", "exponent", "product", "_"]
theorem sc_power : FnScope nm_power ["base", "exponent"] (defScope s_power) := ⟨rfl, rfl, rfl, by decide +kernel, rfl, by decide +kernel, by decide +kernel⟩
abbrev s_sum_ahead : Stmt := topS 5
abbrev nm_sum_ahead : List Str := ["modulus", "factors", "ahead", "factor", "number"]
theorem sc_sum_ahead : FnScope nm_sum_ahead ["modulus", "factors", "ahead"] (defScope s_sum_ahead) := ⟨rfl, rfl, rfl, by decide +kernel, rfl, by decide +kernel, by decide +kernel⟩
abbrev s_rule_error : Stmt := topS 10
abbrev nm_rule_error : List Str := ["value", "modulus", "factors", "begin"]
theorem sc_rule_error : FnScope nm_rule_error ["value"] (defScope s_rule_error) := ⟨rfl, rfl, rfl, by decide +kernel, rfl, by decide +kernel, by decide +kernel⟩
abbrev s_values : Stmt := topS 11
abbrev nm_values : List Str := ["rule", "many", "modulus", "factors", "begin", "row"]
theorem sc_values : FnScope nm_values ["rule", "many"] (defScope s_values) := ⟨rfl, rfl, rfl, by decide +kernel, rfl, by decide +kernel, by decide +kernel⟩
abbrev s_deck : Stmt := topS 13
abbrev nm_deck : List Str := ["_law_script", "_law_cells", "_law_great", "_law_cell"]
theorem sc_deck : FnScope nm_deck ["_law_script"] (defScope s_deck) := ⟨rfl, rfl, rfl, by decide +kernel, rfl, by decide +kernel, by decide +kernel⟩
abbrev s_draw : Stmt := topS 14
abbrev nm_draw : List Str := ["_law_deck_here", "_law_many", "_law_great", "_law_cells", "_law_rest", "_law_turn", "_law_found"]
theorem sc_draw : FnScope nm_draw ["_law_deck_here", "_law_many"] (defScope s_draw) := ⟨rfl, rfl, rfl, by decide +kernel, rfl, by decide +kernel, by decide +kernel⟩
abbrev s_pick : Stmt := topS 15
abbrev nm_pick : List Str := ["_law_deck_here", "_law_items"]
theorem sc_pick : FnScope nm_pick ["_law_deck_here", "_law_items"] (defScope s_pick) := ⟨rfl, rfl, rfl, by decide +kernel, rfl, by decide +kernel, by decide +kernel⟩
abbrev s_whole : Stmt := topS 16
abbrev nm_whole : List Str := ["_law_value", "_law_low", "_law_high"]
theorem sc_whole : FnScope nm_whole ["_law_value", "_law_low", "_law_high"] (defScope s_whole) := ⟨rfl, rfl, rfl, by decide +kernel, rfl, by decide +kernel, by decide +kernel⟩
abbrev s_odd : Stmt := topS 17
abbrev nm_odd : List Str := ["_law_deck_here", "_law_some"]
theorem sc_odd : FnScope nm_odd ["_law_deck_here"] (defScope s_odd) := ⟨rfl, rfl, rfl, by decide +kernel, rfl, by decide +kernel, by decide +kernel⟩
abbrev s_bent : Stmt := topS 18
abbrev nm_bent : List Str := ["_law_deck_here", "_law_value", "_law_deep", "_law_at", "_law_some"]
theorem sc_bent : FnScope nm_bent ["_law_deck_here", "_law_value", "_law_deep"] (defScope s_bent) := ⟨rfl, rfl, rfl, by decide +kernel, rfl, by decide +kernel, by decide +kernel⟩
abbrev s_numbers : Stmt := topS 19
abbrev nm_numbers : List Str := ["_law_value", "_law_many", "_law_modulus", "_law_one"]
theorem sc_numbers : FnScope nm_numbers ["_law_value", "_law_many", "_law_modulus"] (defScope s_numbers) := ⟨rfl, rfl, rfl, by decide +kernel, rfl, by decide +kernel, by decide +kernel⟩
abbrev s_word : Stmt := topS 20
abbrev nm_word : List Str := ["_law_value", "_law_modulus", "_law_factors", "_law_begin", "_law_many"]
theorem sc_word : FnScope nm_word ["_law_value"] (defScope s_word) := ⟨rfl, rfl, rfl, by decide +kernel, rfl, by decide +kernel, by decide +kernel⟩
abbrev s_rule : Stmt := topS 21
abbrev nm_rule : List Str := ["_law_deck_here", "_law_modulus", "_law_many", "_law_factors", "_law_k"]
theorem sc_rule : FnScope nm_rule ["_law_deck_here"] (defScope s_rule) := ⟨rfl, rfl, rfl, by decide +kernel, rfl, by decide +kernel, by decide +kernel⟩
abbrev s_spoilt : Stmt := topS 22
abbrev nm_spoilt : List Str := ["_law_deck_here", "_law_rule_here", "_law_modulus", "_law_factors", "_law_begin", "_law_at", "_law_wrong", "_law_other", "_law_bad", "_law_worse", "_law_some"]
theorem sc_spoilt : FnScope nm_spoilt ["_law_deck_here", "_law_rule_here"] (defScope s_spoilt) := ⟨rfl, rfl, rfl, by decide +kernel, rfl, by decide +kernel, by decide +kernel⟩
abbrev s_law : Stmt := topS 23
abbrev nm_law : List Str := ["_law_script", "_law_deck_here", "_law_turn", "_law_rule_here", "_law_twice", "_law_things", "_law_thing", "_law_held", "_law_due", "_law_modulus", "_law_factors", "_law_begin", "_law_later", "_law_one", "_law_other"]
theorem sc_law : FnScope nm_law ["_law_script"] (defScope s_law) := ⟨rfl, rfl, rfl, by decide +kernel, rfl, by decide +kernel, by decide +kernel⟩
structure Tp (K : PySem.W.Frag) (mg : Str → Option Value) where
  a_is_whole : Addr
  d_is_whole : FuncData
  F_is_whole : Fun K "is_whole" "is_whole" s_is_whole a_is_whole d_is_whole
  g_is_whole : mg "is_whole" = some (.ref a_is_whole)
  a_is_triple : Addr
  d_is_triple : FuncData
  F_is_triple : Fun K "is_triple" "is_triple" s_is_triple a_is_triple d_is_triple
  g_is_triple : mg "is_triple" = some (.ref a_is_triple)
  a_are_below : Addr
  d_are_below : FuncData
  F_are_below : Fun K "are_below" "are_below" s_are_below a_are_below d_are_below
  g_are_below : mg "are_below" = some (.ref a_are_below)
  a_power : Addr
  d_power : FuncData
  F_power : Fun K "power" "power" s_power a_power d_power
  g_power : mg "power" = some (.ref a_power)
  a_sum_ahead : Addr
  d_sum_ahead : FuncData
  F_sum_ahead : Fun K "sum_ahead" "sum_ahead" s_sum_ahead a_sum_ahead d_sum_ahead
  g_sum_ahead : mg "sum_ahead" = some (.ref a_sum_ahead)
  a_rule_error : Addr
  d_rule_error : FuncData
  F_rule_error : Fun K "rule_error" "rule_error" s_rule_error a_rule_error d_rule_error
  g_rule_error : mg "rule_error" = some (.ref a_rule_error)
  a_values : Addr
  d_values : FuncData
  F_values : Fun K "values" "values" s_values a_values d_values
  g_values : mg "values" = some (.ref a_values)
  a_deck : Addr
  d_deck : FuncData
  F_deck : Fun K "_law_deck" "_law_deck" s_deck a_deck d_deck
  g_deck : mg "_law_deck" = some (.ref a_deck)
  a_draw : Addr
  d_draw : FuncData
  F_draw : Fun K "_law_draw" "_law_draw" s_draw a_draw d_draw
  g_draw : mg "_law_draw" = some (.ref a_draw)
  a_pick : Addr
  d_pick : FuncData
  F_pick : Fun K "_law_pick" "_law_pick" s_pick a_pick d_pick
  g_pick : mg "_law_pick" = some (.ref a_pick)
  a_whole : Addr
  d_whole : FuncData
  F_whole : Fun K "_law_whole" "_law_whole" s_whole a_whole d_whole
  g_whole : mg "_law_whole" = some (.ref a_whole)
  a_odd : Addr
  d_odd : FuncData
  F_odd : Fun K "_law_odd" "_law_odd" s_odd a_odd d_odd
  g_odd : mg "_law_odd" = some (.ref a_odd)
  a_bent : Addr
  d_bent : FuncData
  F_bent : Fun K "_law_bent" "_law_bent" s_bent a_bent d_bent
  g_bent : mg "_law_bent" = some (.ref a_bent)
  a_numbers : Addr
  d_numbers : FuncData
  F_numbers : Fun K "_law_numbers" "_law_numbers" s_numbers a_numbers d_numbers
  g_numbers : mg "_law_numbers" = some (.ref a_numbers)
  a_word : Addr
  d_word : FuncData
  F_word : Fun K "_law_word" "_law_word" s_word a_word d_word
  g_word : mg "_law_word" = some (.ref a_word)
  a_rule : Addr
  d_rule : FuncData
  F_rule : Fun K "_law_rule" "_law_rule" s_rule a_rule d_rule
  g_rule : mg "_law_rule" = some (.ref a_rule)
  a_spoilt : Addr
  d_spoilt : FuncData
  F_spoilt : Fun K "_law_spoilt" "_law_spoilt" s_spoilt a_spoilt d_spoilt
  g_spoilt : mg "_law_spoilt" = some (.ref a_spoilt)
  a_law : Addr
  d_law : FuncData
  F_law : Fun K "law" "law" s_law a_law d_law
  g_law : mg "law" = some (.ref a_law)
  n_abs : mg "abs" = none
  n_all : mg "all" = none
  n_bool : mg "bool" = none
  n_int : mg "int" = none
  n_isinstance : mg "isinstance" = none
  n_len : mg "len" = none
  n_list : mg "list" = none
  n_range : mg "range" = none
  n_repr : mg "repr" = none
  n_str : mg "str" = none
  n_sum : mg "sum" = none
  n_tuple : mg "tuple" = none
  n_zip : mg "zip" = none
  k__MOST_MODULUS : Tok
  m__MOST_MODULUS : mg "_MOST_MODULUS" = some (.int 9 k__MOST_MODULUS)
  k__MOST_FACTORS : Tok
  m__MOST_FACTORS : mg "_MOST_FACTORS" = some (.int 4 k__MOST_FACTORS)
  k__MOST_BEGINS : Tok
  m__MOST_BEGINS : mg "_MOST_BEGINS" = some (.int 5000 k__MOST_BEGINS)
section
variable {K : PySem.W.Frag} {mg : Str → Option Value} (T : Tp K mg)
theorem b_is_whole : Binds K T.d_is_whole ["value", "low", "high"] [] := T.F_is_whole.binds (ps := ["value", "low", "high"]) fun _ _ _ _ _ _ us hl => match us, hl with | [_, _, _], _ => rfl
theorem b_is_triple : Binds K T.d_is_triple ["value"] [] := T.F_is_triple.binds (ps := ["value"]) fun _ _ _ _ _ _ us hl => match us, hl with | [_], _ => rfl
theorem b_are_below : Binds K T.d_are_below ["modulus", "value"] [] := T.F_are_below.binds (ps := ["modulus", "value"]) fun _ _ _ _ _ _ us hl => match us, hl with | [_, _], _ => rfl
theorem b_power : Binds K T.d_power ["base", "exponent"] [] := T.F_power.binds (ps := ["base", "exponent"]) fun _ _ _ _ _ _ us hl => match us, hl with | [_, _], _ => rfl
theorem b_sum_ahead : Binds K T.d_sum_ahead ["modulus", "factors", "ahead"] [] := T.F_sum_ahead.binds (ps := ["modulus", "factors", "ahead"]) fun _ _ _ _ _ _ us hl => match us, hl with | [_, _, _], _ => rfl
theorem b_rule_error : Binds K T.d_rule_error ["value"] [] := T.F_rule_error.binds (ps := ["value"]) fun _ _ _ _ _ _ us hl => match us, hl with | [_], _ => rfl
theorem b_values : Binds K T.d_values ["rule", "many"] [] := T.F_values.binds (ps := ["rule", "many"]) fun _ _ _ _ _ _ us hl => match us, hl with | [_, _], _ => rfl
theorem b_deck : Binds K T.d_deck ["_law_script"] [] := T.F_deck.binds (ps := ["_law_script"]) fun _ _ _ _ _ _ us hl => match us, hl with | [_], _ => rfl
theorem b_draw : Binds K T.d_draw ["_law_deck_here", "_law_many"] [] := T.F_draw.binds (ps := ["_law_deck_here", "_law_many"]) fun _ _ _ _ _ _ us hl => match us, hl with | [_, _], _ => rfl
theorem b_pick : Binds K T.d_pick ["_law_deck_here", "_law_items"] [] := T.F_pick.binds (ps := ["_law_deck_here", "_law_items"]) fun _ _ _ _ _ _ us hl => match us, hl with | [_, _], _ => rfl
theorem b_whole : Binds K T.d_whole ["_law_value", "_law_low", "_law_high"] [] := T.F_whole.binds (ps := ["_law_value", "_law_low", "_law_high"]) fun _ _ _ _ _ _ us hl => match us, hl with | [_, _, _], _ => rfl
theorem b_odd : Binds K T.d_odd ["_law_deck_here"] [] := T.F_odd.binds (ps := ["_law_deck_here"]) fun _ _ _ _ _ _ us hl => match us, hl with | [_], _ => rfl
theorem b_bent : Binds K T.d_bent ["_law_deck_here", "_law_value", "_law_deep"] [] := T.F_bent.binds (ps := ["_law_deck_here", "_law_value", "_law_deep"]) fun _ _ _ _ _ _ us hl => match us, hl with | [_, _, _], _ => rfl
theorem b_numbers : Binds K T.d_numbers ["_law_value", "_law_many", "_law_modulus"] [] := T.F_numbers.binds (ps := ["_law_value", "_law_many", "_law_modulus"]) fun _ _ _ _ _ _ us hl => match us, hl with | [_, _, _], _ => rfl
theorem b_word : Binds K T.d_word ["_law_value"] [] := T.F_word.binds (ps := ["_law_value"]) fun _ _ _ _ _ _ us hl => match us, hl with | [_], _ => rfl
theorem b_rule : Binds K T.d_rule ["_law_deck_here"] [] := T.F_rule.binds (ps := ["_law_deck_here"]) fun _ _ _ _ _ _ us hl => match us, hl with | [_], _ => rfl
theorem b_spoilt : Binds K T.d_spoilt ["_law_deck_here", "_law_rule_here"] [] := T.F_spoilt.binds (ps := ["_law_deck_here", "_law_rule_here"]) fun _ _ _ _ _ _ us hl => match us, hl with | [_, _], _ => rfl
theorem b_law : Binds K T.d_law ["_law_script"] [] := T.F_law.binds (ps := ["_law_script"]) fun _ _ _ _ _ _ us hl => match us, hl with | [_], _ => rfl
end
set_option pp.deepTerms false
set_option pp.deepTerms.threshold 5
section
variable {P : Program} {wd : World} {K : PySem.W.Frag} {mg : Str → Option Value} {base : Heap} (T : Tp K mg)
theorem mem_ints {x : V} {ns : List Int} {xs : List V} (e : xs = ns.map V.int) (h : x ∈ xs) : ∃ i ∈ ns, x = .int i := by
  subst e
  obtain ⟨i, h1, h2⟩ := List.mem_map.mp h
  exact ⟨i, h1, h2.symm⟩
theorem cut63 {xs : List V} {n : Nat} (h : xs.length ≤ n) : cutV xs none (some (n : Int)) = xs := by
  unfold cutV
  rw [sIx_of _ _ (by omega)]
  show (xs.drop 0).take (min (n : Int).toNat xs.length - 0) = xs
  rw [List.drop_zero, Nat.sub_zero, Int.toNat_natCast, Nat.min_eq_right h, List.take_length]
abbrev Dk (w g c : Addr) (H : Hp) : Prop := DkC "mixed" w g c H
theorem kd {g c : Addr} {W k : Int} : valV (dkv "mixed" g c W k) (Sum.inr ("great" : Str)) = some (.ref g) ∧ valV (dkv "mixed" g c W k) (Sum.inr ("cells" : Str)) = some (.ref c) ∧
    valV (dkv "mixed" g c W k) (Sum.inr ("whole" : Str)) = some (.int W) ∧ valV (dkv "mixed" g c W k) (Sum.inr ("mixed" : Str)) = some (.int k) := dk_get (by decide)
def spDeck (K : PySem.W.Frag) : Sp := fun vs H Q _ => ∃ (a : Addr) (ns : List Int), vs = [.ref a] ∧ SqL K H a (ns.map V.int) ∧ ns.length ≤ 63 ∧
  ∀ w g c H', Same H H' → Dk w g c H' → Q (.ref w) H'
theorem ok_deck : FnOk P wd K mg base CX0 1 T.a_deck T.d_deck ["_law_script"] (spDeck K) := by
  refine T.F_deck.ok sc_deck (fun vs H Q E h => ?_) (fun cdv A outer s H vs Q E hr h => ?_)
  · obtain ⟨a, ns, rfl, _⟩ := h
    rfl
  · obtain ⟨a, ns, rfl, hS, hl, q⟩ := h
    refine ⟨_, (pss_cons (ps_set (i := 1) sc_deck.nd rfl (Or.inl rfl) (pe_callTy call_list_of rfl T.n_list (by decide +kernel) (pa_cons (pe_slice sl_list (pv 0) po_none (po_some pe_int)) pa_nil)))
      (pss_cons (ps_setLc (i := 2) (own := [("_law_cell", 3)]) rfl sc_deck.nd rfl rfl (sw_true rfl rfl rfl (by decide +kernel)) (pi_list (pv 1)) (blkOk_by (N := nm_deck) (sc := defScope s_deck) (by decide +kernel)) (fun _ _ _ _ _ => pg_name (i := 3) sc_deck.nd rfl (Or.inl rfl)) (fun _ _ _ _ _ => pts_one (pt_cmpR op_ge (pe_callB call_abs rfl T.n_abs (by decide +kernel) (pa_cons (pv 3) pa_nil)) (pe_op op_pow pe_int pe_int) (nomark _))) (fun _ _ _ _ _ => (pe_callB call_abs rfl T.n_abs (by decide +kernel) (pa_cons (pv 3) pa_nil))))
      (pss_one (ps_ret (pe_disp (pps_cons pe_str (pv 2) (pps_cons pe_str (pe_op op_cat (pv 1) (pe_lst (pa_cons (pe_op op_add pe_int (pe_callB call_len_seq rfl T.n_len PySem.boot_len (pa_cons (pv 1) pa_nil))) pa_nil))) (pps_cons pe_str (pe_callB (cr_sum rfl) rfl T.n_sum (by decide +kernel) (pa_cons (pv 1) pa_nil)) (pps_cons pe_str pe_int pps_nil)))) rfl rfl (by simp) (by decide)))))), ?_⟩
    walk_at "go"
    refine ⟨a, ns.map V.int, rfl, hS, ?_⟩
    rw [show (63 : Int) = ((63 : Nat) : Int) from rfl, cut63 (by rw [List.length_map]; exact hl)]
    intro c0 nc0
    generalize hU0 : upd H c0 _ = H0
    obtain ⟨s0, hc0⟩ := new_of0 nc0 hU0
    refine ⟨c0, _, rfl, .inl (sqL_of hc0), ?_⟩
    intro c nc
    generalize hU : upd H0 c _ = H1
    obtain ⟨s1', hc⟩ := new_of0 nc hU
    have s1 := s0.trans s1'
    walk_at "go"
    refine ⟨⟨_, sqL_of hc⟩, fun D nD => ?_⟩
    refine lc_list (xs := ns.map V.int) (fun i H2 => ∃ gs : List Int, H2 D = some (.lst (gs.map V.int)) ∧ gs.length ≤ i ∧ Same H1 H2) ⟨[], upd_same, Nat.zero_le _, same_new nD⟩
      (fun i H2 _ p => sqL_of (p.choose_spec.2.2 _ _ hc)) (fun i x H2 hx p => ?_) (fun H2 p => ?_)
    · obtain ⟨gs, hD, hg, S⟩ := p
      obtain ⟨z, _, rfl⟩ := mem_ints (x := x) (ns := ns) rfl (List.mem_of_getElem? hx)
      have hil : i < (ns.map V.int).length := (List.getElem?_eq_some_iff.mp hx).1
      rw [List.length_map] at hil
      refine ⟨rfl, ?_⟩
      walk_at "go"
      refine ifD (fun big => ?_) (fun nb => ?_)
      · walk_at "go"
        refine ⟨_, hD, small1000 (by rw [List.length_map]; omega), gs ++ [_], by rw [upd_same, List.map_append]; rfl, by rw [List.length_append]; simp; omega, same_mut S nD⟩
      · exact ⟨gs, hD, by omega, S⟩
    · obtain ⟨gs, hD, hg, S⟩ := p
      rw [List.length_map] at hg
      have hc2 := S _ _ hc
      walk_at "go"
      intro w nw
      generalize hU3 : upd H2 w _ = H5
      obtain ⟨s5, hw⟩ := new_of0 nw hU3
      have hD5 := s5 _ _ hD
      have hc5 := s5 _ _ hc2
      walk_at "go"
      intro l1 nl1
      generalize hU4 : upd H5 l1 _ = H6
      obtain ⟨s6, hl1⟩ := new_of0 nl1 hU4
      have hc6 := s6 _ _ hc5
      refine ⟨c, l1, _, _, rfl, rfl, hc6, hl1, szl (by rw [List.length_map]; simp; omega), fun c3 nc3 => ?_⟩
      generalize hU5 : upd H6 c3 _ = H7
      obtain ⟨s7, hc3⟩ := new_of0 nc3 hU5
      have hc7 := s7 _ _ hc6
      have hD7 := s7 _ _ (s6 _ _ hD5)
      walk_at "go"
      refine ⟨c, ns, rfl, sqL_of hc7, ?_⟩
      walk_at "go"
      have hw7 := s7 _ _ (s6 _ _ hw)
      refine ⟨hw7, dkv "mixed" D c3 ns.sum 0, rfl, by simp [dkv], ?_⟩
      have em : mergeK [] (dkv "mixed" D c3 ns.sum 0) = dkv "mixed" D c3 ns.sum 0 := by
        have e1 : (Sum.inr ("great" : Str) : Key) ≠ Sum.inr ("cells" : Str) := by decide
        have e2 : (Sum.inr ("great" : Str) : Key) ≠ Sum.inr ("whole" : Str) := by decide
        have e3 : (Sum.inr ("cells" : Str) : Key) ≠ Sum.inr ("whole" : Str) := by decide
        have e4 : (Sum.inr ("great" : Str) : Key) ≠ Sum.inr ("mixed" : Str) := by decide
        have e5 : (Sum.inr ("cells" : Str) : Key) ≠ Sum.inr ("mixed" : Str) := by decide
        have e6 : (Sum.inr ("whole" : Str) : Key) ≠ Sum.inr ("mixed" : Str) := by decide
        simp [mergeK, putK, dkv, e1, e2, e3, e4, e5, e6]
      rw [em]
      have Sall : Same H (upd H7 w (.dK (dkv "mixed" D c3 ns.sum 0))) := fun b o z => by
        have z4 := S _ _ (s1 _ _ z)
        rw [upd_ne (ne_of_none z4 nw)]
        exact s7 _ _ (s6 _ _ (s5 _ _ z4))
      obtain ⟨z, hz⟩ : ∃ z : Int, H7 c3 = some (.lst ((ns ++ [z]).map V.int)) := ⟨_, by rw [List.map_append]; exact hc3⟩
      have n1 : w ≠ D := ne_of hw7 hD7 (by intro z; cases z)
      have n2 : c3 ≠ D := (ne_of_none (s6 _ _ hD5) nc3).symm
      have n3 : c3 ≠ w := ne_of hz hw7 (by intro z; cases z)
      refine q w D c3 _ Sall ⟨gs, ns ++ [z], ns.sum, 0, n1, n2, n3, upd_same, (upd_ne n1.symm).trans hD7, (upd_ne n3).trans hz, by simp, by omega, by simp; omega⟩
section
variable {w g c : Addr} {M k : Int} {H : Hp}
theorem dg_great (hw : H w = some (.dK (dkv "mixed" g c M k))) : DGet H w (.str "great") (some (.ref g)) := kd.1 ▸ DGet.k (k := Sum.inr "great") hw
theorem dg_cells (hw : H w = some (.dK (dkv "mixed" g c M k))) : DGet H w (.str "cells") (some (.ref c)) := kd.2.1 ▸ DGet.k (k := Sum.inr "cells") hw
theorem dg_whole (hw : H w = some (.dK (dkv "mixed" g c M k))) : DGet H w (.str "whole") (some (.int M)) := kd.2.2.1 ▸ DGet.k (k := Sum.inr "whole") hw
theorem dg_drawn (hw : H w = some (.dK (dkv "mixed" g c M k))) : DGet H w (.str "mixed") (some (.int k)) := kd.2.2.2 ▸ DGet.k (k := Sum.inr "mixed") hw
end
def spDraw : Sp := fun vs H Q _ => ∃ (w g c : Addr) (n : Int), vs = [.ref w, .int n] ∧ Dk w g c H ∧ 0 < n ∧ n < 1073741824 ∧
  ∀ (d : Int) H', Go w g H H' → Dk w g c H' → 0 ≤ d → d < n → Q (.int d) H'
theorem kput {g c : Addr} {W k j : Int} : putK (dkv "mixed" g c W k) (Sum.inr ("mixed" : Str)) (.int j) = dkv "mixed" g c W j := by
  have e4 : (Sum.inr ("great" : Str) : Key) ≠ Sum.inr ("mixed" : Str) := by decide
  have e5 : (Sum.inr ("cells" : Str) : Key) ≠ Sum.inr ("mixed" : Str) := by decide
  have e6 : (Sum.inr ("whole" : Str) : Key) ≠ Sum.inr ("mixed" : Str) := by decide
  simp [putK, dkv, e4, e5, e6]
theorem ok_draw : FnOk P wd K mg base CX0 1 T.a_draw T.d_draw ["_law_deck_here", "_law_many"] spDraw := by
  refine T.F_draw.ok sc_draw (fun vs H Q E h => ?_) (fun cdv A outer s H vs Q E hr h => ?_)
  · obtain ⟨w, g, c, n, rfl, _⟩ := h
    rfl
  · have hu4 : (cxOf CX0 P wd K mg base nm_draw "_law_draw" (defScope s_draw) T.a_draw cdv A outer s H E).A.units + 64 < cLine := hr.units
    obtain ⟨w, g, c, n, rfl, W, n0, n1, q⟩ := h
    refine ⟨_, (pss_cons (ps_par (i := 2) (j := 3) rfl sc_draw.nd rfl rfl (by decide) rfl rfl (pa_cons (pe_dget (hu_of hr) (pv 0) pe_str (fun _ _ => rfl)) (pa_cons (pe_dget (hu_of hr) (pv 0) pe_str (fun _ _ => rfl)) pa_nil)) rfl)
      (pss_cons (ps_if (pt_cmpR (op_neD hu4) (pv 2) (pe_lst pa_nil) (nomark _)) (pss_cons (ps_set (i := 4) sc_draw.nd rfl (Or.inl rfl) (pe_ix ix_list (pv 2) pe_int (fun _ _ => rfl)))
      (pss_cons (ps_asg (pe_op op_fdiv (pv 4) (pv 1)) (pg_sub (pv 2) pe_int set_list))
      (pss_cons (ps_if (pt_cmpR op_eq (pe_ix ix_list (pv 2) pe_int (fun _ _ => rfl)) pe_int (nomark _)) (pss_one (ps_expr (pe_bm PySem.F.plainAttrs_list PySem.F.slot_list_pop PySem.F.type_list_pop mt_popAt (pv 2) (pa_cons pe_int pa_nil)))) pss_nil)
      (pss_one (ps_ret (pe_op op_mod (pe_callTy call_int1 rfl T.n_int (by decide +kernel) (pa_cons (pv 4) pa_nil)) (pv 1))))))) pss_nil)
      (pss_cons (ps_dput (hu_of hr) (pv 0) pe_str (pe_op op_add (pe_dget (hu_of hr) (pv 0) pe_str (fun _ _ => rfl)) pe_int) rfl)
      (pss_cons (ps_set (i := 5) sc_draw.nd rfl (Or.inl rfl) (pe_dget (hu_of hr) (pv 0) pe_str (fun _ _ => rfl)))
      (pss_cons (ps_set (i := 6) sc_draw.nd rfl (Or.inl rfl) (pe_op op_mod (pe_callTy call_int1 rfl T.n_int (by decide +kernel) (pa_cons (pe_op op_add (pe_op op_add (pe_ix ix_list (pv 3) (pe_op op_mod (pe_callTy call_int1 rfl T.n_int (by decide +kernel) (pa_cons (pv 5) pa_nil)) (pe_callB call_len_seq rfl T.n_len PySem.boot_len (pa_cons (pv 3) pa_nil))) (fun _ _ => rfl)) (pe_op op_mul pe_int (pe_dget (hu_of hr) (pv 0) pe_str (fun _ _ => rfl)))) (pe_op op_mul pe_int (pv 5))) pa_nil)) pe_int))
      (pss_cons (ps_set (i := 6) sc_draw.nd rfl (Or.inl rfl) (pe_op op_mod (pe_callTy call_int1 rfl T.n_int (by decide +kernel) (pa_cons (pe_op op_add (pe_op op_mul (pv 6) (pv 6)) (pe_op op_mul pe_int (pv 5))) pa_nil)) pe_int))
      (pss_one (ps_ret (pe_op op_mod (pe_op op_fdiv (pe_op op_mod (pe_callTy call_int1 rfl T.n_int (by decide +kernel) (pa_cons (pe_op op_mul (pv 6) (pv 6)) pa_nil)) pe_int) pe_int) (pv 1)))))))))), ?_⟩
    obtain ⟨gs, cs, M, k, e1, e2, e3, hw, hg, hc, h0, hgs, hcs⟩ := W
    walk_at "go"
    refine ⟨w, .ref g, rfl, dg_great hw, ?_⟩
    walk_at "go"
    refine ⟨w, .ref c, rfl, dg_cells hw, ?_⟩
    walk_at "go"
    intro o no
    have s1 : Same H (upd H o (.lst [])) := same_new no
    have ho : (upd H o (.lst [])) o = some (.lst []) := upd_same
    generalize upd H o (.lst []) = H1 at s1 ho
    replace hw := s1 _ _ hw
    replace hg := s1 _ _ hg
    replace hc := s1 _ _ hc
    refine ⟨.list (gs.map PyData.int), .list [], .lst (sqL_of hg) (dpAll_ints _), .lst (sqL_of ho) .nil, shaped_ints _, by rfl, _, rfl, ?_⟩
    rw [eqv_ints_nil]
    refine ifDn (fun hne => ?_) (fun he => ?_)
    · obtain ⟨r, gs', rfl⟩ : ∃ r gs', gs = r :: gs' := by
        cases gs with
        | nil => exact absurd rfl hne
        | cons r gs' => exact ⟨r, gs', rfl⟩
      walk_at "go"
      refine ⟨g, _, 0, 0, rfl, rfl, hg, ix_zero (by simp), ?_⟩
      have hg2 : (upd H1 g (.lst ((((r :: gs').map V.int)).set 0 (.int (r / n))))) g = some (.lst (((r / n) :: gs').map V.int)) := upd_same
      have hw2 : (upd H1 g (.lst ((((r :: gs').map V.int)).set 0 (.int (r / n))))) w = _ := (upd_ne e1).trans hw
      have hc2 : (upd H1 g (.lst ((((r :: gs').map V.int)).set 0 (.int (r / n))))) c = _ := (upd_ne e2).trans hc
      have s2 : Go w g H (upd H1 g (.lst ((((r :: gs').map V.int)).set 0 (.int (r / n))))) := fun a x n1 n2 e => by
        rw [upd_ne n2]
        exact s1 _ _ e
      show (_ : Hp → Prop) (upd H1 g (.lst ((((r :: gs').map V.int)).set 0 (.int (r / n)))))
      generalize upd H1 g (.lst ((((r :: gs').map V.int)).set 0 (.int (r / n)))) = H2 at hg2 hw2 hc2 s2
      walk_at "go"
      refine ifD (fun ez => ?_) (fun nz => ?_)
      · walk_at "go"
        refine ⟨Or.inl ⟨rfl, _, sqL_of hg2⟩, ?_⟩
        walk_at "go"
        refine ⟨_, _, 0, 0, .int (r / n), rfl, rfl, hg2, by decide, by decide, by rw [List.length_map, List.length_cons]; exact seq_zero _, rfl, ?_⟩
        have hg3 : (upd H2 g (.lst ((((r / n) :: gs').map V.int).eraseIdx 0))) g = some (.lst (gs'.map V.int)) := upd_same
        have hw3 : (upd H2 g (.lst ((((r / n) :: gs').map V.int).eraseIdx 0))) w = _ := (upd_ne e1).trans hw2
        have hc3 : (upd H2 g (.lst ((((r / n) :: gs').map V.int).eraseIdx 0))) c = _ := (upd_ne e2).trans hc2
        have s3 : Go w g H (upd H2 g (.lst ((((r / n) :: gs').map V.int).eraseIdx 0))) := fun a x n1 n2 e => by
          rw [upd_ne n2]
          exact s2 _ _ n1 n2 e
        generalize upd H2 g (.lst ((((r / n) :: gs').map V.int).eraseIdx 0)) = H3 at hg3 hw3 hc3 s3
        walk_at "go"
        exact q _ _ s3 ⟨_, cs, M, k, e1, e2, e3, hw3, hg3, hc3, h0, by rw [List.length_cons] at hgs; omega, hcs⟩ (Int.emod_nonneg _ (by omega)) (Int.emod_lt_of_pos _ n0)
      · walk_at "go"
        exact q _ _ s2 ⟨_, cs, M, k, e1, e2, e3, hw2, hg2, hc2, h0, by rw [List.length_cons] at hgs ⊢; omega, hcs⟩ (Int.emod_nonneg _ (by omega)) (Int.emod_lt_of_pos _ n0)
    · subst he
      walk_at "go"
      refine ⟨w, .int k, rfl, dg_drawn hw, ?_⟩
      walk_at "go"
      refine ⟨w, _, rfl, DPut.k (k := Sum.inr "mixed") hw (by show 4 < sizeLine; decide), ?_⟩
      rw [kput]
      have hw2 : (upd H1 w (.dK (dkv "mixed" g c M (k + 1)))) w = some (.dK (dkv "mixed" g c M (k + 1))) := upd_same
      have hg2 : (upd H1 w (.dK (dkv "mixed" g c M (k + 1)))) g = _ := (upd_ne e1.symm).trans hg
      have hc2 : (upd H1 w (.dK (dkv "mixed" g c M (k + 1)))) c = _ := (upd_ne e3).trans hc
      have s2 : Go w g H (upd H1 w (.dK (dkv "mixed" g c M (k + 1)))) := fun a x n1 n2 e => by
        rw [upd_ne n1]
        exact s1 _ _ e
      generalize upd H1 w (.dK (dkv "mixed" g c M (k + 1))) = H2 at hg2 hw2 hc2 s2
      have hm : ((k + 1) % (((cs.map V.int).length : Nat) : Int)).toNat < cs.length := by
        rw [List.length_map]
        have h1 := Int.emod_nonneg (k + 1) (show (cs.length : Int) ≠ 0 by omega)
        have h2 := Int.emod_lt_of_pos (k + 1) (show 0 < (cs.length : Int) by omega)
        omega
      obtain ⟨x, hx⟩ : ∃ x, cs[((k + 1) % (((cs.map V.int).length : Nat) : Int)).toNat]? = some x := ⟨_, List.getElem?_eq_getElem hm⟩
      walk_at "go"
      refine ⟨w, .int (k + 1), rfl, dg_drawn hw2, ?_⟩
      walk_at "go"
      refine go_ixLi (xs := cs.map V.int) (v := .int x) hc2 (j := ((k + 1) % (((cs.map V.int).length : Nat) : Int)).toNat) ?_ (by rw [List.getElem?_map, hx]; rfl) ?_
      · rw [Int.toNat_of_nonneg (Int.emod_nonneg _ (by rw [List.length_map]; omega))]
      walk_at "go"
      refine ⟨w, .int M, rfl, dg_whole hw2, ?_⟩
      walk_at "go"
      exact q _ _ s2 ⟨[], cs, M, k + 1, e1, e2, e3, hw2, hg2, hc2, h0, hgs, hcs⟩ (Int.emod_nonneg _ (by omega)) (Int.emod_lt_of_pos _ n0)
/-- one of the items -/
def spPick : Sp := fun vs H Q _ => ∃ (w g c l : Addr) (xs : List V), vs = [.ref w, .ref l] ∧ Dk w g c H ∧ Ac w g c H l (.lst xs) ∧ 0 < xs.length ∧ xs.length < 1000000 ∧
  ∀ x H', x ∈ xs → Go w g H H' → Dk w g c H' → Q x H'
theorem ok_pick : FnOk P wd K mg base CX0 2 T.a_pick T.d_pick ["_law_deck_here", "_law_items"] spPick := by
  have G_draw : FnOk P wd K mg base CX0 1 T.a_draw T.d_draw ["_law_deck_here", "_law_many"] spDraw := ok_draw T
  refine T.F_pick.ok sc_pick (fun vs H Q E h => ?_) (fun cdv A outer s H vs Q E hr h => ?_)
  · obtain ⟨w, g, c, l, xs, rfl, _⟩ := h
    rfl
  · obtain ⟨w, g, c, l, xs, rfl, W, L, l0, l1, q⟩ := h
    refine ⟨_, (pss_one (ps_ret (pe_ix ix_list (pv 1) (pe_call G_draw hr rfl T.g_draw T.F_draw.kp (b_draw T) .nil pass0 (pa_cons (pv 0) (pa_cons (pe_callB call_len_seq rfl T.n_len PySem.boot_len (pa_cons (pv 1) pa_nil)) pa_nil))) (fun _ _ => rfl)))), ?_⟩
    have hl := L.at_
    walk_at "go"
    refine ⟨w, g, c, _, rfl, W, by omega, by omega, fun d H' s1 W1 d0 d1 => ?_⟩
    have hl1 := (L.go s1).at_
    obtain ⟨x, hx⟩ : ∃ x, xs[d.toNat]? = some x := ⟨_, List.getElem?_eq_getElem (by omega)⟩
    refine go_ixLi hl1 (j := d.toNat) (by omega) hx ?_
    exact q x H' (List.mem_of_getElem? hx) s1 W1
end
set_option pp.deepTerms false
set_option pp.deepTerms.threshold 5
section
variable {P : Program} {wd : World} {K : PySem.W.Frag} {mg : Str → Option Value} {base : Heap} (T : Tp K mg)
abbrev nV (l : List Nat) : List V := l.map fun k => V.int (k : Nat)
theorem nV_len (l : List Nat) : (nV l).length = l.length := List.length_map ..
theorem nV_get {l : List Nat} {i : Nat} {v : V} (h : (nV l)[i]? = some v) : ∃ k, l[i]? = some k ∧ v = .int (k : Nat) := by
  rw [List.getElem?_map] at h
  cases e : l[i]? with
  | none => rw [e] at h; cases h
  | some k => rw [e] at h; exact ⟨k, rfl, (Option.some.inj h).symm⟩
theorem nV_snoc (l : List Nat) (a : Nat) : nV (l ++ [a]) = nV l ++ [.int (a : Nat)] := List.map_append
theorem nV_rev (l : List Nat) : (nV l).reverse = nV l.reverse := (List.map_reverse ..).symm
def spSum : Sp := fun vs H Q _ => ∃ (af al : Addr) (m : Nat) (fs as : List Nat), vs = [.int m, .ref af, .ref al] ∧ H af = some (.tup (nV fs)) ∧ (H al = some (.lst (nV as)) ∨ H al = some (.tup (nV as))) ∧
  0 < m ∧ fs.length ≤ 4 ∧ (∀ f, f ∈ fs → f < 10) ∧ (∀ a, a ∈ as → a < 10) ∧ as.length ≤ 1000 ∧ ∀ H', Same H H' → Q (.int ((nxt m fs as : Nat) : Int)) H'
theorem to_val {R : V → Hp → Prop} {v v' : V} {H : Hp} (e : v = v') (h : R v' H) : R v H := e ▸ h
theorem zw_succ {fs as : List Nat} {i f a : Nat} (hf : fs[i]? = some f) (ha : as[i]? = some a) : (List.zipWith (· * ·) fs as).take (i + 1) = (List.zipWith (· * ·) fs as).take i ++ [f * a] := by
  have e : (List.zipWith (· * ·) fs as)[i]? = some (f * a) := by
    rw [List.getElem?_zipWith, hf, ha]
  rw [List.take_add_one, e]
  rfl
theorem sum_nat (l : List Nat) : (l.map fun k => ((k : Nat) : Int)).sum = ((l.sum : Nat) : Int) := by
  induction l with
  | nil => rfl
  | cons a l ih => rw [List.map_cons, List.sum_cons, ih, List.sum_cons]; omega
theorem nV_ints (l : List Nat) : nV l = (l.map fun k => ((k : Nat) : Int)).map V.int := by rw [List.map_map]; rfl
theorem ok_sum_ahead : FnOk P wd K mg base CX0 1 T.a_sum_ahead T.d_sum_ahead ["modulus", "factors", "ahead"] spSum := by
  refine T.F_sum_ahead.ok sc_sum_ahead (fun vs H Q E h => ?_) (fun cdv A outer s H vs Q E hr h => ?_)
  · obtain ⟨af, al, m, fs, as, rfl, _⟩ := h
    rfl
  · obtain ⟨af, al, m, fs, as, rfl, hf, ha, m0, f4, fm, am, al1, q⟩ := h
    refine ⟨_, (pss_one (ps_ret (pe_op op_mod (pe_callB (cr_sum rfl) rfl T.n_sum (by decide +kernel) (pa_cons (pe_lc (own := [("factor", 3), ("number", 4)]) (g := gTup K 2 (gCons (gName 3) (gCons (gName 4) gNil))) rfl sc_sum_ahead.nd (PI.or (pi_zipM rfl T.n_zip (pa_cons (pv 1) (pa_cons (pe_revL (pv 2)) pa_nil))) (RZ.pi_zipA rfl T.n_zip (pa_cons (pv 1) (pa_cons (pe_revT (pv 2)) pa_nil)))) (blkOk_by (N := nm_sum_ahead) (sc := defScope s_sum_ahead) (by decide +kernel)) (fun _ _ _ _ _ => pg_tup rfl (pgs_cons (pg_name (i := 3) sc_sum_ahead.nd rfl (Or.inl rfl) (Or.inr rfl)) (pgs_cons (pg_name (i := 4) sc_sum_ahead.nd rfl (Or.inl rfl) (Or.inr rfl)) pgs_nil))) (fun _ _ _ _ _ => pts_nil) (fun _ _ _ _ _ => (pe_op op_mul (pv 3) (pv 4)))) pa_nil)) (pv 0)))), ?_⟩
    have nn : ∀ i f a : Nat, fs[i]? = some f → as.reverse[i]? = some a → f < 10 ∧ a < 10 := fun i f a h1 h2 =>
      ⟨fm f (List.mem_of_getElem? h1), am a (List.mem_reverse.mp (List.mem_of_getElem? h2))⟩
    rcases ha with ha | ha
    · walk_at "go"
      intro ar nr
      generalize hU : upd H ar _ = H1
      obtain ⟨s1, hr1⟩ := new_of0 nr hU
      rw [nV_rev] at hr1
      walk_at "go"
      refine ⟨af, ar, nV fs, nV as.reverse, rfl, sqT_of (s1 _ _ hf), sqL_of hr1, fun D nD => ?_⟩
      refine lc_it (walk_zipM rfl) (fun i H2 => H2 D = some (.lst (nV ((List.zipWith (· * ·) fs as.reverse).take i))) ∧ Same H1 H2) ⟨upd_same, same_new nD⟩
        (fun i H2 _ p => ⟨sqT_of (p.2 _ _ (s1 _ _ hf)), sqL_of (p.2 _ _ hr1)⟩) (fun i x H2 H3 hi p y => ?_) (fun H2 p => ?_)
      · obtain ⟨hD, S⟩ := p
        obtain ⟨T', x, y, rfl, hT, rfl, hx, hy⟩ := y
        obtain ⟨f, ef, rfl⟩ := nV_get hx
        obtain ⟨a, ea, rfl⟩ := nV_get hy
        obtain ⟨f10, a10⟩ := nn i f a ef ea
        generalize hU2 : upd H2 T' _ = H4
        obtain ⟨s4, hT4⟩ := new_of0 hT hU2
        have hD4 := s4 _ _ hD
        have S4 := S.trans s4
        walk_at "go"
        have i4 : i < 4 := by rw [nV_len] at hi; omega
        refine ⟨_, hD4, small1000 (by rw [nV_len, List.length_take]; omega), ?_⟩
        refine ⟨?_, same_mut S4 nD⟩
        rw [upd_same, zw_succ ef ea, nV_snoc, Int.natCast_mul]
      · obtain ⟨hD, S⟩ := p
        rw [List.take_of_length_le (by rw [List.length_zipWith, nV_len, nV_len]; exact Nat.le_refl _)] at hD
        refine ⟨D, (List.zipWith (· * ·) fs as.reverse).map fun k => ((k : Nat) : Int), rfl, sqL_of (by rw [hD, nV_ints]), ?_⟩
        rw [sum_nat]
        walk_at "go"
        refine to_val ?_ (q H2 (s1.trans S))
        show V.int (_ % _) = _
        rw [← Int.natCast_emod]
        rfl
    · refine Or.inr ?_
      walk_at "go"
      intro ar nr
      generalize hU : upd H ar _ = H1
      obtain ⟨s1, hr1⟩ := new_of0 nr hU
      rw [nV_rev] at hr1
      walk_at "go"
      refine ⟨af, ar, nV fs, nV as.reverse, rfl, .inr ⟨sqT_of (s1 _ _ hf), sqT_of hr1, fun D nD => ?_⟩⟩
      refine lc_it (walk_zipT rfl) (fun i H2 => H2 D = some (.lst (nV ((List.zipWith (· * ·) fs as.reverse).take i))) ∧ Same H1 H2) ⟨upd_same, same_new nD⟩
        (fun i H2 _ p => ⟨sqT_of (p.2 _ _ (s1 _ _ hf)), sqT_of (p.2 _ _ hr1)⟩) (fun i x H2 H3 hi p y => ?_) (fun H2 p => ?_)
      · obtain ⟨hD, S⟩ := p
        obtain ⟨T', x, y, rfl, hT, rfl, hx, hy⟩ := y
        obtain ⟨f, ef, rfl⟩ := nV_get hx
        obtain ⟨a, ea, rfl⟩ := nV_get hy
        obtain ⟨f10, a10⟩ := nn i f a ef ea
        generalize hU2 : upd H2 T' _ = H4
        obtain ⟨s4, hT4⟩ := new_of0 hT hU2
        have hD4 := s4 _ _ hD
        have S4 := S.trans s4
        walk_at "go"
        have i4 : i < 4 := by rw [nV_len] at hi; omega
        refine ⟨_, hD4, small1000 (by rw [nV_len, List.length_take]; omega), ?_⟩
        refine ⟨?_, same_mut S4 nD⟩
        rw [upd_same, zw_succ ef ea, nV_snoc, Int.natCast_mul]
      · obtain ⟨hD, S⟩ := p
        rw [List.take_of_length_le (by rw [List.length_zipWith, nV_len, nV_len]; exact Nat.le_refl _)] at hD
        refine ⟨D, (List.zipWith (· * ·) fs as.reverse).map fun k => ((k : Nat) : Int), rfl, sqL_of (by rw [hD, nV_ints]), ?_⟩
        rw [sum_nat]
        walk_at "go"
        refine to_val ?_ (q H2 (s1.trans S))
        show V.int (_ % _) = _
        rw [← Int.natCast_emod]
        rfl
end
set_option pp.deepTerms false
set_option pp.deepTerms.threshold 5
section
variable {P : Program} {wd : World} {K : PySem.W.Frag} {mg : Str → Option Value} {base : Heap} (T : Tp K mg)
/-- a rule at r -/
structure RuleAt (H : Hp) (r af ab : Addr) (m : Nat) (fs bs : List Nat) : Prop where
  at_ : H r = some (.tup [.int m, .ref af, .ref ab])
  fat : H af = some (.tup (nV fs))
  bat : H ab = some (.tup (nV bs))
  rl : Rl m fs bs
theorem RuleAt.same {H H' : Hp} {r af ab : Addr} {m : Nat} {fs bs : List Nat} (x : RuleAt H r af ab m fs bs) (s : Same H H') : RuleAt H' r af ab m fs bs :=
  ⟨s _ _ x.at_, s _ _ x.fat, s _ _ x.bat, x.rl⟩
theorem RuleAt.go {w g c : Addr} {H H' : Hp} {r af ab : Addr} {m : Nat} {fs bs : List Nat} (x : RuleAt H r af ab m fs bs) (W : Dk w g c H) (s : Go w g H H') : RuleAt H' r af ab m fs bs :=
  ⟨((W.tup x.at_).go s).at_, ((W.tup x.fat).go s).at_, ((W.tup x.bat).go s).at_, x.rl⟩
theorem cutV_last {xs : List V} {k : Nat} (k1 : 1 ≤ k) (hk : k ≤ xs.length) : cutV xs (some (-(k : Int))) none = xs.drop (xs.length - k) := by
  unfold cutV
  have e : HT.sIx xs.length 0 (some (-(k : Int))) = xs.length - k := by
    show (if (-(k : Int)) < 0 then (-(k : Int) + (xs.length : Int)).toNat else _) = _
    rw [if_pos (by omega)]
    omega
  rw [e]
  show (xs.drop (xs.length - k)).take (xs.length - (xs.length - k)) = _
  rw [List.take_of_length_le (by rw [List.length_drop]; omega)]
theorem cutV_to {xs : List V} {n : Nat} : cutV xs none (some (n : Int)) = xs.take n := by
  unfold cutV
  rw [sIx_of _ _ (by omega)]
  show (xs.drop 0).take (min (n : Int).toNat xs.length - 0) = _
  rw [List.drop_zero, Nat.sub_zero, Int.toNat_natCast, ← List.take_eq_take_min]
theorem cutV_from1 {xs : List V} (h : 1 ≤ xs.length) : cutV xs (some 1) none = xs.drop 1 := by
  unfold cutV
  rw [sIx_of _ _ (by omega)]
  show (xs.drop (min (1 : Int).toNat xs.length)).take (xs.length - min (1 : Int).toNat xs.length) = _
  rw [show min (1 : Int).toNat xs.length = 1 by show min 1 xs.length = 1; omega, List.take_of_length_le (by rw [List.length_drop]; omega)]
theorem nV_take (l : List Nat) (n : Nat) : (nV l).take n = nV (l.take n) := by rw [← List.map_take]
theorem nV_drop (l : List Nat) (n : Nat) : (nV l).drop n = nV (l.drop n) := by rw [← List.map_drop]
theorem rl10 {m : Nat} {fs bs : List Nat} (r : Rl m fs bs) : (∀ f, f ∈ fs → f < 10) ∧ ∀ n a, a ∈ st m fs bs n → a < 10 := by
  have := r.m9
  exact ⟨fun f hf => by have := r.fm f hf; omega, fun n a ha => by have := st_lt r n a ha; omega⟩
def spValues : Sp := fun vs H Q _ => ∃ (r af ab : Addr) (m : Nat) (fs bs : List Nat) (n : Nat), vs = [.ref r, .int n] ∧ RuleAt H r af ab m fs bs ∧ n ≤ 40000 ∧
  ∀ p H', Same H H' → H' p = some (.tup (nV (rw_ m fs bs n))) → Q (.ref p) H'
theorem ok_values : FnOk P wd K mg base CX0 2 T.a_values T.d_values ["rule", "many"] spValues := by
  have G_sum_ahead : FnOk P wd K mg base CX0 1 T.a_sum_ahead T.d_sum_ahead ["modulus", "factors", "ahead"] spSum := ok_sum_ahead T
  refine T.F_values.ok sc_values (fun vs H Q E h => ?_) (fun cdv A outer s H vs Q E hr h => ?_)
  · obtain ⟨r, af, ab, m, fs, bs, n, rfl, _⟩ := h
    rfl
  · obtain ⟨r, af, ab, m, fs, bs, n, rfl, R, n4, q⟩ := h
    refine ⟨_, (pss_cons (ps_asg (pv 0) (pg_tup rfl (pgs_cons (pg_name (i := 2) sc_values.nd rfl (Or.inl rfl)) (pgs_cons (pg_name (i := 3) sc_values.nd rfl (Or.inl rfl)) (pgs_cons (pg_name (i := 4) sc_values.nd rfl (Or.inl rfl)) pgs_nil)))))
      (pss_cons (ps_set (i := 5) sc_values.nd rfl (Or.inl rfl) (pe_callTy call_list_of rfl T.n_list (by decide +kernel) (pa_cons (pv 4) pa_nil)))
      (pss_cons (ps_while PassesOwn.never (pt_cmpR op_lt (pe_callB call_len_seq rfl T.n_len PySem.boot_len (pa_cons (pv 5) pa_nil)) (pv 1) (nomark _)) (pss_one (ps_expr (pe_bm PySem.F.plainAttrs_list PySem.F.slot_list_append PySem.F.type_list_append mt_append (pv 5) (pa_cons (pe_call G_sum_ahead hr rfl T.g_sum_ahead T.F_sum_ahead.kp (b_sum_ahead T) .nil pass0 (pa_cons (pv 2) (pa_cons (pv 3) (pa_cons (pe_slice sl_list (pv 5) (po_some (pe_un un_neg (pe_callB call_len_seq rfl T.n_len PySem.boot_len (pa_cons (pv 3) pa_nil)))) po_none) pa_nil)))) pa_nil)))))
      (pss_one (ps_ret (pe_callTy call_tuple_of rfl T.n_tuple (by decide +kernel) (pa_cons (pe_slice sl_list (pv 5) po_none (po_some (pv 1))) pa_nil))))))), ?_⟩
    have h1 := R.at_
    have rl := R.rl
    have f1 := rl.f1
    have f4 := rl.f4
    walk_at "go"
    refine ⟨ab, _, rfl, .inr (sqT_of R.bat), fun L nL => ?_⟩
    have s0 : Same H (upd H L (.lst (nV bs))) := same_new nL
    refine ⟨fun μ σ H2 => ∃ (j : Nat) (H3 : Hp), σ = [some (.ref r), some (.int n), some (.int m), some (.ref af), some (.ref ab), some (.ref L)] ∧ H2 = upd H3 L (.lst (nV (rw_ m fs bs j))) ∧ Same H H3 ∧ fs.length ≤ j ∧ (j ≤ n ∨ j = fs.length) ∧ μ = n - j,
      ⟨n - fs.length, fs.length, H, rfl, by rw [rw_begin rl], Same.rfl', Nat.le_refl _, .inr rfl, rfl⟩, fun μ σ H2 p => ?_⟩
    obtain ⟨j, H3, rfl, rfl, S, hj, hjn, rfl⟩ := p
    have hL : (upd H3 L (.lst (nV (rw_ m fs bs j)))) L = some (.lst (nV (rw_ m fs bs j))) := upd_same
    have S1 : Same H (upd H3 L (.lst (nV (rw_ m fs bs j)))) := same_mut S nL
    generalize upd H3 L (.lst (nV (rw_ m fs bs j))) = H4 at hL S1
    have hfa := S1 _ _ R.fat
    walk_at "go"
    refine ifD (fun lt => ?_) (fun nlt => ?_)
    · rw [nV_len, rw_len] at lt
      refine ⟨fun σ' H' => σ' = [some (.ref r), some (.int n), some (.int m), some (.ref af), some (.ref ab), some (.ref L)] ∧ ∃ H3 : Hp, H' = upd H3 L (.lst (nV (rw_ m fs bs (j + 1)))) ∧ Same H H3, fun σ' H' p => ?_, ?_⟩
      · obtain ⟨rfl, H3, rfl, S3⟩ := p
        exact ⟨n - (j + 1), by omega, j + 1, H3, rfl, rfl, S3, by omega, by omega, rfl⟩
      · refine ⟨_, rfl, ?_⟩
        refine ⟨Or.inl ⟨rfl, _, sqL_of hL⟩, ?_⟩
        walk_at "go"
        intro D nD
        generalize hU : upd H4 D _ = H5
        obtain ⟨s5, hD⟩ := new_of0 nD hU
        have e1 : cutV (nV (rw_ m fs bs j)) (some (-(((nV fs).length : Nat) : Int))) none = nV (st m fs bs (j - fs.length)) := by
          rw [cutV_last (by rw [nV_len]; omega) (by rw [nV_len, nV_len, rw_len]; omega), nV_drop, nV_len, nV_len, rw_len]
          congr 1
          have := st_row rl (j - fs.length)
          rw [show j - fs.length + fs.length = j by omega] at this
          exact this
        refine ⟨af, D, m, fs, st m fs bs (j - fs.length), rfl, s5 _ _ hfa, .inl (by rw [hD, e1]), by have := rl.m2; omega, f4, (rl10 rl).1, (rl10 rl).2 _, by rw [st_len rl]; omega, fun H6 s6 => ?_⟩
        have hL6 := s6 _ _ (s5 _ _ hL)
        have e2 : nxt m fs (st m fs bs (j - fs.length)) = xv m fs bs j := by
          have := x_next rl (j - fs.length)
          rw [show j - fs.length + fs.length = j by omega] at this
          exact this.symm
        rw [e2]
        refine ⟨L, _, _, rfl, rfl, hL6, Nat.lt_of_le_of_lt (by rw [nV_len, rw_len]; omega : _ ≤ 40000) (by decide), ?_⟩
        refine ⟨rfl, H6, by rw [rw_succ, nV_snoc], (S1.trans s5).trans s6⟩
    · rw [nV_len, rw_len] at nlt
      walk_at "go"
      intro D nD
      generalize hU : upd H4 D _ = H5
      obtain ⟨s5, hD⟩ := new_of0 nD hU
      rw [cutV_to, nV_take, rw_take, Nat.min_eq_left (by omega)] at hD
      refine ⟨D, _, rfl, .inl ⟨sqL_of hD, fun p np => ?_⟩⟩
      exact q p _ ((S1.trans s5).trans (same_new np)) upd_same
end
set_option pp.deepTerms false
set_option pp.deepTerms.threshold 5
section
variable {P : Program} {wd : World} {K : PySem.W.Frag} {mg : Str → Option Value} {base : Heap} (T : Tp K mg)
def wholeD (lo hi : Int) : PyData → Bool
  | .int i => decide (lo ≤ i) && decide (i ≤ hi)
  | _ => false
def facD (m : Int) : PyData → Option Nat
  | .tuple fs => if fs.all (wholeD 0 (m - 1)) = true ∧ 1 ≤ fs.length ∧ fs.length ≤ 4 then some fs.length else none
  | _ => none
def begD (m : Int) (k : Nat) : PyData → Bool
  | .tuple bs => decide (bs.length = k) && bs.all (wholeD 0 (m - 1))
  | _ => false
/-- the word that a thing is told by, None for a rule -/
def errF (m : Int) (f b : PyData) : V := match facD m f with
  | none => .str "factors"
  | some k => if m = 9 ∧ k = 4 then .str "factors" else if begD m k b then .non else .str "begin"
def errR (m f b : PyData) : V := if wholeD 2 9 m = false then .str "modulus" else match m with
  | .int m => errF m f b
  | _ => .non
def errV : PyData → V
  | .tuple [m, f, b] => errR m f b
  | _ => .str "rule"
def tripD : PyData → Bool
  | .tuple [_, _, _] => true
  | _ => false
theorem szl2 {n : Nat} (h : n ≤ 1000000) : n < sizeLine := Nat.lt_of_le_of_lt h (by decide)
def spWhole : Sp := fun vs H Q _ => ∃ (w g : Addr) (v : V) (d : PyData) (lo hi : Int), vs = [v, .int lo, .int hi] ∧ Th w g H v d ∧ Q (.bl (wholeD lo hi d)) H
theorem ok_is_whole : FnOk P wd K mg base CX0 1 T.a_is_whole T.d_is_whole ["value", "low", "high"] spWhole := by
  refine T.F_is_whole.ok sc_is_whole (fun vs H Q E h => ?_) (fun cdv A outer s H vs Q E hr h => ?_)
  · obtain ⟨w, g, v, d, lo, hi, rfl, _⟩ := h
    rfl
  · obtain ⟨w, g, v, d, lo, hi, rfl, t, q⟩ := h
    refine ⟨_, (pss_one (ps_ret (pe_and (pe_callB call_isi rfl T.n_isinstance (by decide +kernel) (pa_cons (pv 0) (pa_cons (pe_bltn (v := .ty "int") rfl T.n_int (by decide +kernel) rfl) pa_nil))) (pe_and (pe_not (pe_callB call_isi rfl T.n_isinstance (by decide +kernel) (pa_cons (pv 0) (pa_cons (pe_bltn (v := .ty "bool") rfl T.n_bool (by decide +kernel) rfl) pa_nil)))) (pe_one (pe_chain op_le op_le (pv 1) (pv 0) (pv 2))))))), ?_⟩
    obtain ⟨ty, h1, h2⟩ := t.isInt (K := K)
    obtain ⟨ty', h3, h4⟩ := t.isBool (K := K)
    walk_at "go"
    refine ⟨_, _, ty, _, _, rfl, .ty "int", h1, h2, ?_⟩
    refine ⟨_, rfl, ?_⟩
    cases t with
    | int i =>
      refine ifB (fun _ => ?_) (fun c => by cases c)
      walk_at "go"
      refine ⟨_, _, ty', _, _, rfl, .ty "bool", h3, h4, ?_⟩
      refine ⟨_, rfl, ?_⟩
      refine ⟨_, rfl, ?_⟩
      refine ifB (fun _ => ?_) (fun c => by cases c)
      walk_at "go"
      refine ite2 (fun c => ?_) (fun c => ?_)
      · walk_at "go"
        have e : wholeD lo hi (.int i) = decide (i ≤ hi) := by
          show (decide (lo ≤ i) && decide (i ≤ hi)) = _
          rw [c, Bool.true_and]
        rw [e] at q
        exact q
      · have e : wholeD lo hi (.int i) = false := by
          show (decide (lo ≤ i) && decide (i ≤ hi)) = _
          rw [Bool.eq_false_iff.mpr c, Bool.false_and]
        rw [e] at q
        exact q
    | bl b =>
      refine ifB (fun _ => ?_) (fun c => by cases c)
      walk_at "go"
      refine ⟨_, _, ty', _, _, rfl, .ty "bool", h3, h4, ?_⟩
      refine ⟨_, rfl, ?_⟩
      refine ⟨_, rfl, ?_⟩
      exact ifB (fun c => by cases c) (fun _ => q)
    | _ => exact q
theorem ok_whole : FnOk P wd K mg base CX0 1 T.a_whole T.d_whole ["_law_value", "_law_low", "_law_high"] spWhole := by
  refine T.F_whole.ok sc_whole (fun vs H Q E h => ?_) (fun cdv A outer s H vs Q E hr h => ?_)
  · obtain ⟨w, g, v, d, lo, hi, rfl, _⟩ := h
    rfl
  · obtain ⟨w, g, v, d, lo, hi, rfl, t, q⟩ := h
    refine ⟨_, (pss_one (ps_ret (pe_and (pe_callB call_isi rfl T.n_isinstance (by decide +kernel) (pa_cons (pv 0) (pa_cons (pe_bltn (v := .ty "int") rfl T.n_int (by decide +kernel) rfl) pa_nil))) (pe_and (pe_not (pe_callB call_isi rfl T.n_isinstance (by decide +kernel) (pa_cons (pv 0) (pa_cons (pe_bltn (v := .ty "bool") rfl T.n_bool (by decide +kernel) rfl) pa_nil)))) (pe_one (pe_chain op_le op_le (pv 1) (pv 0) (pv 2))))))), ?_⟩
    obtain ⟨ty, h1, h2⟩ := t.isInt (K := K)
    obtain ⟨ty', h3, h4⟩ := t.isBool (K := K)
    walk_at "go"
    refine ⟨_, _, ty, _, _, rfl, .ty "int", h1, h2, ?_⟩
    refine ⟨_, rfl, ?_⟩
    cases t with
    | int i =>
      refine ifB (fun _ => ?_) (fun c => by cases c)
      walk_at "go"
      refine ⟨_, _, ty', _, _, rfl, .ty "bool", h3, h4, ?_⟩
      refine ⟨_, rfl, ?_⟩
      refine ⟨_, rfl, ?_⟩
      refine ifB (fun _ => ?_) (fun c => by cases c)
      walk_at "go"
      refine ite2 (fun c => ?_) (fun c => ?_)
      · walk_at "go"
        have e : wholeD lo hi (.int i) = decide (i ≤ hi) := by
          show (decide (lo ≤ i) && decide (i ≤ hi)) = _
          rw [c, Bool.true_and]
        rw [e] at q
        exact q
      · have e : wholeD lo hi (.int i) = false := by
          show (decide (lo ≤ i) && decide (i ≤ hi)) = _
          rw [Bool.eq_false_iff.mpr c, Bool.false_and]
        rw [e] at q
        exact q
    | bl b =>
      refine ifB (fun _ => ?_) (fun c => by cases c)
      walk_at "go"
      refine ⟨_, _, ty', _, _, rfl, .ty "bool", h3, h4, ?_⟩
      refine ⟨_, rfl, ?_⟩
      refine ⟨_, rfl, ?_⟩
      exact ifB (fun c => by cases c) (fun _ => q)
    | _ => exact q
def spTrip : Sp := fun vs H Q _ => ∃ (w g : Addr) (v : V) (d : PyData), vs = [v] ∧ Th w g H v d ∧ Q (.bl (tripD d)) H
theorem ok_is_triple : FnOk P wd K mg base CX0 1 T.a_is_triple T.d_is_triple ["value"] spTrip := by
  refine T.F_is_triple.ok sc_is_triple (fun vs H Q E h => ?_) (fun cdv A outer s H vs Q E hr h => ?_)
  · obtain ⟨w, g, v, d, rfl, _⟩ := h
    rfl
  · obtain ⟨w, g, v, d, rfl, t, q⟩ := h
    refine ⟨_, (pss_one (ps_ret (pe_and (pe_callB call_isi rfl T.n_isinstance (by decide +kernel) (pa_cons (pv 0) (pa_cons (pe_bltn (v := .ty "tuple") rfl T.n_tuple (by decide +kernel) rfl) pa_nil))) (pe_one (pe_cmpR op_eq (pe_callB call_len_seq rfl T.n_len PySem.boot_len (pa_cons (pv 0) pa_nil)) pe_int (nomark _)))))), ?_⟩
    obtain ⟨ty, h1, h2⟩ := t.isTup (K := K)
    walk_at "go"
    refine ⟨_, _, ty, _, _, rfl, .ty "tuple", h1, h2, ?_⟩
    refine ⟨_, rfl, ?_⟩
    cases t with
    | tup h ta =>
      rename_i a xs ds
      refine ifB (fun _ => ?_) (fun c => by cases c)
      have hl := ta.length
      walk_at "go"
      have e : decide (V.int (xs.length : Int) = V.int 3) = tripD (.tuple ds) := by
        rw [hl]
        rcases ds with _ | ⟨d1, _ | ⟨d2, _ | ⟨d3, _ | ⟨d4, ds⟩⟩⟩⟩
        · rfl
        · rfl
        · rfl
        · rfl
        · refine decide_eq_false fun z => ?_
          have := V.int.inj z
          simp only [List.length_cons] at this
          omega
      rw [e]
      exact q
    | _ => exact q
def belowD (m : Int) : PyData → Bool
  | .tuple fs => fs.all (wholeD 0 (m - 1))
  | _ => false
def spBelow : Sp := fun vs H Q _ => ∃ (w g : Addr) (v : V) (d : PyData) (m : Int), vs = [.int m, v] ∧ Th w g H v d ∧ d.weight ≤ 300000 ∧ ∀ H', Same H H' → Q (.bl (belowD m d)) H'
theorem ok_are_below : FnOk P wd K mg base CX0 2 T.a_are_below T.d_are_below ["modulus", "value"] spBelow := by
  have G_is_whole : FnOk P wd K mg base CX0 1 T.a_is_whole T.d_is_whole ["value", "low", "high"] spWhole := ok_is_whole T
  refine T.F_are_below.ok sc_are_below (fun vs H Q E h => ?_) (fun cdv A outer s H vs Q E hr h => ?_)
  · obtain ⟨w, g, v, d, m, rfl, _⟩ := h
    rfl
  · obtain ⟨w, g, v, d, m, rfl, t, wt, q⟩ := h
    refine ⟨_, (pss_one (ps_ret (pe_and (pe_callB call_isi rfl T.n_isinstance (by decide +kernel) (pa_cons (pv 1) (pa_cons (pe_bltn (v := .ty "tuple") rfl T.n_tuple (by decide +kernel) rfl) pa_nil))) (pe_one (pe_callB (cr_all rfl) rfl T.n_all (by decide +kernel) (pa_cons (pe_lc (own := [("item", 2)]) rfl sc_are_below.nd (pi_tup (pv 1)) (blkOk_by (N := nm_are_below) (sc := defScope s_are_below) (by decide +kernel)) (fun _ _ _ _ _ => pg_name (i := 2) sc_are_below.nd rfl (Or.inl rfl)) (fun _ _ _ _ _ => pts_nil) (fun _ _ _ _ _ => (pe_call G_is_whole hr rfl T.g_is_whole T.F_is_whole.kp (b_is_whole T) .nil pass0 (pa_cons (pv 2) (pa_cons pe_int (pa_cons (pe_op op_sub (pv 0) pe_int) pa_nil)))))) pa_nil)))))), ?_⟩
    obtain ⟨ty, h1, h2⟩ := t.isTup (K := K)
    walk_at "go"
    refine ⟨_, _, ty, _, _, rfl, .ty "tuple", h1, h2, ?_⟩
    refine ⟨_, rfl, ?_⟩
    cases t with
    | tup h ta =>
      rename_i a xs ds
      refine ifB (fun _ => ?_) (fun c => by cases c)
      walk_at "go"
      refine ⟨⟨_, sqT_of h⟩, fun D nD => ?_⟩
      have hl := ta.length
      have wl := wt_len ds
      simp only [PyData.weight] at wt
      refine lc_it walk_tup (fun i H2 => H2 D = some (.lst ((ds.take i).map fun d => V.bl (wholeD 0 (m - 1) d))) ∧ Same H H2) ⟨upd_same, same_new nD⟩
        (fun i H2 _ p => sqT_of (p.2 _ _ h)) (fun i x H2 H3 hi p y => ?_) (fun H2 p => ?_)
      · obtain ⟨hD, S⟩ := p
        obtain ⟨rfl, hx⟩ := y
        obtain ⟨d, hd, td⟩ := ta.get hx
        walk_at "go"
        refine ⟨w, g, x, d, _, _, rfl, td.same2 S, ?_⟩
        refine ⟨_, hD, szl2 (by rw [List.length_map, List.length_take]; omega), ?_, same_mut S nD⟩
        rw [upd_same, List.take_add_one, hd, List.map_append]
        rfl
      · obtain ⟨hD, S⟩ := p
        rw [hl, List.take_length] at hD
        refine ⟨D, ds.map (wholeD 0 (m - 1)), rfl, sqL_of (by rw [List.map_map]; exact hD), ?_⟩
        rw [List.all_map]
        exact q H2 S
    | _ => exact q H (fun _ _ e => e)
def spPower : Sp := fun vs H Q _ => ∃ (m k : Nat), vs = [.int m, .int k] ∧ m ≤ 9 ∧ k ≤ 4 ∧ Q (.int ((m ^ k : Nat) : Int)) H
theorem ok_power : FnOk P wd K mg base CX0 1 T.a_power T.d_power ["base", "exponent"] spPower := by
  refine T.F_power.ok sc_power (fun vs H Q E h => ?_) (fun cdv A outer s H vs Q E hr h => ?_)
  · obtain ⟨m, k, rfl, _⟩ := h
    rfl
  · obtain ⟨m, k, rfl, m9, k4, q⟩ := h
    refine ⟨_, (pss_cons (ps_set (i := 2) sc_power.nd rfl (Or.inl rfl) pe_int)
      (pss_cons (ps_for PassesOwn.never rfl (pi_range1 rfl T.n_range (pa_cons (pv 1) pa_nil)) (pg_name (i := 3) sc_power.nd rfl (Or.inl rfl)) (pss_one (ps_set (i := 2) sc_power.nd rfl (Or.inl rfl) (pe_op op_mul (pv 2) (pv 0)))))
      (pss_one (ps_ret (pv 2))))), ?_⟩
    walk_at "go"
    refine for_range (fun i σ H1 => ∃ y, σ = [some (.int m), some (.int k), some (.int ((m ^ i : Nat) : Int)), y] ∧ H1 = H) ⟨_, rfl, rfl⟩ (fun i σ H1 hi px => ?_) (fun σ H1 px => ?_)
    · obtain ⟨y, rfl, rfl⟩ := px
      have b := Nat.pow_le_pow_left m9 i
      have b2 : 9 ^ i ≤ 9 ^ 4 := Nat.pow_le_pow_right (by decide) (by omega)
      have b3 : m ^ i ≤ 6561 := Nat.le_trans b (Nat.le_trans b2 (by decide))
      walk_at "go"
      rfl
    · obtain ⟨y, rfl, rfl⟩ := px
      walk_at "go"
      rw [Int.toNat_natCast]
      exact q
def spErr : Sp := fun vs H Q _ => ∃ (w g : Addr) (v : V) (d : PyData), vs = [v] ∧ Th w g H v d ∧ d.weight ≤ 300000 ∧ ∀ H', Same H H' → Q (errV d) H'
theorem trip_of {d : PyData} (h : tripD d = true) : ∃ a b c, d = .tuple [a, b, c] := by
  unfold tripD at h
  split at h
  · exact ⟨_, _, _, rfl⟩
  · cases h
theorem err_trip {d : PyData} (h : tripD d = false) : errV d = .str "rule" := by
  unfold errV
  split
  · cases h
  · rfl
theorem whole_int {lo hi : Int} {d : PyData} (h : wholeD lo hi d = true) : ∃ i, d = .int i ∧ lo ≤ i ∧ i ≤ hi := by
  unfold wholeD at h
  split at h
  · rw [Bool.and_eq_true, decide_eq_true_eq, decide_eq_true_eq] at h
    exact ⟨_, rfl, h.1, h.2⟩
  · cases h
theorem below_tup {m : Int} {d : PyData} (h : belowD m d = true) : ∃ ds, d = .tuple ds ∧ ds.all (wholeD 0 (m - 1)) = true := by
  unfold belowD at h
  split at h
  · exact ⟨_, rfl, h⟩
  · cases h
theorem fac_none {m : Int} {d : PyData} (h : belowD m d = false) : facD m d = none := by
  unfold facD
  split
  · rename_i fs
    have : fs.all (wholeD 0 (m - 1)) = false := h
    rw [if_neg (by rw [this]; intro c; cases c.1)]
  · rfl
theorem fac_len {m : Int} {fs : List PyData} (h : fs.all (wholeD 0 (m - 1)) = true) : facD m (.tuple fs) = if 1 ≤ fs.length ∧ fs.length ≤ 4 then some fs.length else none := by
  show (if fs.all (wholeD 0 (m - 1)) = true ∧ 1 ≤ fs.length ∧ fs.length ≤ 4 then some fs.length else none) = _
  by_cases c : 1 ≤ fs.length ∧ fs.length ≤ 4
  · rw [if_pos ⟨h, c⟩, if_pos c]
  · rw [if_neg fun z => c z.2, if_neg c]
theorem beg_below {m : Int} {k : Nat} {d : PyData} (h : belowD m d = false) : begD m k d = false := by
  unfold begD
  split
  · rename_i bs
    have : bs.all (wholeD 0 (m - 1)) = false := h
    rw [this, Bool.and_false]
  · rfl
theorem beg_len {m : Int} {k : Nat} {bs : List PyData} (h : bs.all (wholeD 0 (m - 1)) = true) : begD m k (.tuple bs) = decide (bs.length = k) := by
  show (decide (bs.length = k) && bs.all (wholeD 0 (m - 1))) = _
  rw [h, Bool.and_true]
theorem pow_big {M k : Nat} (h2 : 2 ≤ M) (h9 : M ≤ 9) (k1 : 1 ≤ k) (k4 : k ≤ 4) : 5000 < M ^ k ↔ M = 9 ∧ k = 4 := by
  have a : k = 1 ∨ k = 2 ∨ k = 3 ∨ k = 4 := by omega
  have b : M = 2 ∨ M = 3 ∨ M = 4 ∨ M = 5 ∨ M = 6 ∨ M = 7 ∨ M = 8 ∨ M = 9 := by omega
  rcases a with rfl | rfl | rfl | rfl <;> rcases b with rfl | rfl | rfl | rfl | rfl | rfl | rfl | rfl <;> decide
theorem ok_rule_error : FnOk P wd K mg base CX0 3 T.a_rule_error T.d_rule_error ["value"] spErr := by
  have G_is_triple : FnOk P wd K mg base CX0 1 T.a_is_triple T.d_is_triple ["value"] spTrip := ok_is_triple T
  have G_is_whole : FnOk P wd K mg base CX0 1 T.a_is_whole T.d_is_whole ["value", "low", "high"] spWhole := ok_is_whole T
  have G_are_below : FnOk P wd K mg base CX0 2 T.a_are_below T.d_are_below ["modulus", "value"] spBelow := ok_are_below T
  have G_power : FnOk P wd K mg base CX0 1 T.a_power T.d_power ["base", "exponent"] spPower := ok_power T
  refine T.F_rule_error.ok sc_rule_error (fun vs H Q E h => ?_) (fun cdv A outer s H vs Q E hr h => ?_)
  · obtain ⟨w, g, v, d, rfl, _⟩ := h
    rfl
  · obtain ⟨w, g, v, d, rfl, t, wt, q⟩ := h
    refine ⟨_, (pss_cons (ps_if (pt_not (pt_val (pe_call G_is_triple (hr.mono (by decide)) rfl T.g_is_triple T.F_is_triple.kp (b_is_triple T) .nil pass0 (pa_cons (pv 0) pa_nil)))) (pss_one (ps_ret pe_str)) pss_nil)
      (pss_cons (ps_asg (pv 0) (pg_tup rfl (pgs_cons (pg_name (i := 1) sc_rule_error.nd rfl (Or.inl rfl)) (pgs_cons (pg_name (i := 2) sc_rule_error.nd rfl (Or.inl rfl)) (pgs_cons (pg_name (i := 3) sc_rule_error.nd rfl (Or.inl rfl)) pgs_nil)))))
      (pss_cons (ps_if (pt_not (pt_val (pe_call G_is_whole (hr.mono (by decide)) rfl T.g_is_whole T.F_is_whole.kp (b_is_whole T) .nil pass0 (pa_cons (pv 1) (pa_cons pe_int (pa_cons (pe_glob (v := .int 9) rfl T.m__MOST_MODULUS ⟨_, rfl⟩) pa_nil)))))) (pss_one (ps_ret pe_str)) pss_nil)
      (pss_cons (ps_if (PW.pt (pw_or (pt_not (pt_val (pe_call G_are_below hr rfl T.g_are_below T.F_are_below.kp (b_are_below T) .nil pass0 (pa_cons (pv 1) (pa_cons (pv 2) pa_nil))))) (pw_or1 (pt_not (pt_chain op_le op_le pe_int (pe_callB call_len_seq rfl T.n_len PySem.boot_len (pa_cons (pv 2) pa_nil)) (pe_glob (v := .int 4) rfl T.m__MOST_FACTORS ⟨_, rfl⟩)))))) (pss_one (ps_ret pe_str)) pss_nil)
      (pss_cons (ps_if (pt_cmpR op_gt (pe_call G_power (hr.mono (by decide)) rfl T.g_power T.F_power.kp (b_power T) .nil pass0 (pa_cons (pv 1) (pa_cons (pe_callB call_len_seq rfl T.n_len PySem.boot_len (pa_cons (pv 2) pa_nil)) pa_nil))) (pe_glob (v := .int 5000) rfl T.m__MOST_BEGINS ⟨_, rfl⟩) (nomark _)) (pss_one (ps_ret pe_str)) pss_nil)
      (pss_cons (ps_if (PW.pt (pw_or (pt_not (pt_val (pe_call G_are_below hr rfl T.g_are_below T.F_are_below.kp (b_are_below T) .nil pass0 (pa_cons (pv 1) (pa_cons (pv 3) pa_nil))))) (pw_or1 (pt_cmpR op_ne (pe_callB call_len_seq rfl T.n_len PySem.boot_len (pa_cons (pv 3) pa_nil)) (pe_callB call_len_seq rfl T.n_len PySem.boot_len (pa_cons (pv 2) pa_nil)) (nomark _))))) (pss_one (ps_ret pe_str)) pss_nil)
      (pss_one (ps_ret pe_non)))))))), ?_⟩
    walk_at "go"
    refine ⟨w, g, v, d, rfl, t, ?_⟩
    refine ⟨_, rfl, ?_⟩
    cases hp : tripD d with
    | false =>
      refine ifB (fun _ => ?_) (fun c => by cases c)
      walk_at "go"
      rw [err_trip hp] at q
      exact q H (fun _ _ e => e)
    | true =>
      refine ifB (fun c => by cases c) (fun _ => ?_)
      obtain ⟨d1, d2, d3, rfl⟩ := trip_of hp
      cases t with
      | tup h ta =>
        rename_i a xs
        cases ta with
        | cons t1 ta =>
          cases ta with
          | cons t2 ta =>
            cases ta with
            | cons t3 ta =>
              cases ta
              rename_i v1 v2 v3
              simp only [PyData.weight, PyData.weightAll] at wt
              have q' : ∀ H', Same H H' → Q (errR d1 d2 d3) H' := q
              clear q
              walk_at "go"
              refine ⟨w, g, v1, d1, 2, 9, rfl, t1, ?_⟩
              refine ⟨_, rfl, ?_⟩
              unfold errR at q'
              cases r1 : wholeD 2 9 d1 with
              | false =>
                refine ifB (fun _ => ?_) (fun c => by cases c)
                rw [if_pos r1] at q'
                walk_at "go"
                exact q' H (fun _ _ e => e)
              | true =>
                refine ifB (fun c => by cases c) (fun _ => ?_)
                rw [if_neg (by rw [r1]; decide)] at q'
                obtain ⟨m, rfl, m2, m9⟩ := whole_int r1
                replace q' : ∀ H', Same H H' → Q (errF m d2 d3) H' := q'
                cases t1
                walk_at "go"
                refine ⟨w, g, v2, d2, m, rfl, t2, by omega, fun H2 s2 => ?_⟩
                refine ⟨_, rfl, ?_⟩
                cases r2 : belowD m d2 with
                | false =>
                  refine ifB (fun _ => ?_) (fun c => by cases c)
                  have q3 := q' H2 s2
                  simp only [errF, fac_none r2] at q3
                  walk_at "go"
                  exact q3
                | true =>
                  refine ifB (fun c => by cases c) (fun _ => ?_)
                  obtain ⟨fs, rfl, ha⟩ := below_tup r2
                  cases t2 with
                  | tup h2 ta2 =>
                    rename_i af xs2
                    have hl2 := ta2.length
                    have h2' := s2 _ _ h2
                    simp only [errF, fac_len ha] at q'
                    obtain ⟨M, rfl⟩ : ∃ M : Nat, m = (M : Nat) := ⟨m.toNat, by omega⟩
                    walk_at "go"
                    refine ite2 (fun c1 => ?_) (fun n1 => ?_)
                    · rw [decide_eq_true_eq] at c1
                      walk_at "go"
                      refine ifDn (fun c2 => ?_) (fun n2 => ?_)
                      · have z : ¬ (1 ≤ fs.length ∧ fs.length ≤ 4) := by omega
                        simp only [if_neg z] at q'
                        walk_at "go"
                        exact q' H2 s2
                      · have z : 1 ≤ fs.length ∧ fs.length ≤ 4 := by omega
                        simp only [if_pos z] at q'
                        walk_at "go"
                        have pb := pow_big (M := M) (k := fs.length) (by omega) (by omega) z.1 z.2
                        rw [hl2]
                        refine ifD (fun c3 => ?_) (fun n3 => ?_)
                        · have z2 := pb.mp (by omega)
                          have z3 : (M : Int) = 9 ∧ fs.length = 4 := ⟨by omega, z2.2⟩
                          simp only [if_pos z3] at q'
                          walk_at "go"
                          exact q' H2 s2
                        · have z3 : ¬ ((M : Int) = 9 ∧ fs.length = 4) := fun c => by have := pb.mpr ⟨by omega, c.2⟩; omega
                          simp only [if_neg z3] at q'
                          walk_at "go"
                          refine ⟨w, g, v3, d3, M, rfl, t3.same2 s2, by omega, fun H3 s3 => ?_⟩
                          refine ⟨_, rfl, ?_⟩
                          cases r3 : belowD (M : Int) d3 with
                          | false =>
                            refine ifB (fun _ => ?_) (fun c => by cases c)
                            rw [if_neg (by rw [beg_below r3]; decide)] at q'
                            walk_at "go"
                            exact q' H3 (s2.trans s3)
                          | true =>
                            refine ifB (fun c => by cases c) (fun _ => ?_)
                            obtain ⟨bs, rfl, hb⟩ := below_tup r3
                            cases t3 with
                            | tup h3 ta3 =>
                              rename_i ab xs3
                              have hl3 := ta3.length
                              have h23 := s3 _ _ h2'
                              have h33 := s3 _ _ (s2 _ _ h3)
                              simp only [beg_len hb] at q'
                              walk_at "go"
                              refine ifDn (fun c4 => ?_) (fun n4 => ?_)
                              · rw [if_neg (by rw [decide_eq_true_eq]; intro z; exact c4 (by rw [hl3, hl2, z]))] at q'
                                walk_at "go"
                                exact q' H3 (s2.trans s3)
                              · have n5 := V.int.inj n4
                                rw [if_pos (by rw [decide_eq_true_eq]; omega)] at q'
                                walk_at "go"
                                exact q' H3 (s2.trans s3)
                    · have z : ¬ (1 ≤ fs.length ∧ fs.length ≤ 4) := fun c => n1 (decide_eq_true (by omega))
                      simp only [if_neg z] at q'
                      walk_at "go"
                      exact q' H2 s2
def numsD (k : Nat) (m : Int) : PyData → Bool
  | .tuple bs => decide (bs.length = k) && bs.all (wholeD 0 (m - 1))
  | _ => false
def spNums : Sp := fun vs H Q _ => ∃ (w g : Addr) (v : V) (d : PyData) (k : Nat) (m : Int), vs = [v, .int k, .int m] ∧ Th w g H v d ∧ d.weight ≤ 300000 ∧ ∀ H', Same H H' → Q (.bl (begD m k d)) H'
theorem ok_numbers : FnOk P wd K mg base CX0 2 T.a_numbers T.d_numbers ["_law_value", "_law_many", "_law_modulus"] spNums := by
  have G_whole : FnOk P wd K mg base CX0 1 T.a_whole T.d_whole ["_law_value", "_law_low", "_law_high"] spWhole := ok_whole T
  refine T.F_numbers.ok sc_numbers (fun vs H Q E h => ?_) (fun cdv A outer s H vs Q E hr h => ?_)
  · obtain ⟨w, g, v, d, k, m, rfl, _⟩ := h
    rfl
  · have hu4 : (cxOf CX0 P wd K mg base nm_numbers "_law_numbers" (defScope s_numbers) T.a_numbers cdv A outer s H E).A.units + 64 < cLine := hr.units
    obtain ⟨w, g, v, d, k, m, rfl, t, wt, q⟩ := h
    refine ⟨_, (pss_cons (ps_if (PW.pt (pw_or (pt_not (pt_val (pe_callB call_isi rfl T.n_isinstance (by decide +kernel) (pa_cons (pv 0) (pa_cons (pe_bltn (v := .ty "tuple") rfl T.n_tuple (by decide +kernel) rfl) pa_nil))))) (pw_or1 (pt_cmpR op_ne (pe_callB call_len_seq rfl T.n_len PySem.boot_len (pa_cons (pv 0) pa_nil)) (pv 1) (nomark _))))) (pss_one (ps_ret pe_bl)) pss_nil)
      (pss_one (ps_ret (pe_cmpR (op_eqD hu4) (pe_lc (own := [("_law_one", 3)]) rfl sc_numbers.nd (pi_tup (pv 0)) (blkOk_by (N := nm_numbers) (sc := defScope s_numbers) (by decide +kernel)) (fun _ _ _ _ _ => pg_name (i := 3) sc_numbers.nd rfl (Or.inl rfl)) (fun _ _ _ _ _ => pts_one (pt_not (pt_val (pe_call G_whole hr rfl T.g_whole T.F_whole.kp (b_whole T) .nil pass0 (pa_cons (pv 3) (pa_cons pe_int (pa_cons (pe_op op_sub (pv 2) pe_int) pa_nil))))))) (fun _ _ _ _ _ => pe_int)) (pe_lst pa_nil) (nomark _))))), ?_⟩
    obtain ⟨ty, h1, h2⟩ := t.isTup (K := K)
    walk_at "go"
    refine ⟨_, _, ty, _, _, rfl, .ty "tuple", h1, h2, ?_⟩
    refine ⟨_, rfl, ?_⟩
    cases t with
    | tup h ta =>
      rename_i a xs ds
      refine ifB (fun c => by cases c) (fun _ => ?_)
      have hl := ta.length
      walk_at "go"
      refine ifDn (fun c => ?_) (fun n => ?_)
      · walk_at "go"
        have e : begD m k (.tuple ds) = false := by
          show (decide (ds.length = k) && _) = false
          rw [decide_eq_false (by intro z; exact c (by rw [hl, z])), Bool.false_and]
        rw [e] at q
        exact q H (fun _ _ e => e)
      · have n5 := V.int.inj n
        walk_at "go"
        refine ⟨⟨_, sqT_of h⟩, fun D nD => ?_⟩
        have wl := wt_len ds
        simp only [PyData.weight] at wt
        refine lc_it walk_tup (fun i H2 => H2 D = some (.lst ((((ds.take i).filter fun d => !wholeD 0 (m - 1) d).map fun _ => (1 : Int)).map V.int)) ∧ Same H H2) ⟨upd_same, same_new nD⟩
          (fun i H2 _ p => sqT_of (p.2 _ _ h)) (fun i x H2 H3 hi p y => ?_) (fun H2 p => ?_)
        · obtain ⟨hD, S⟩ := p
          obtain ⟨rfl, hx⟩ := y
          obtain ⟨d, hd, td⟩ := ta.get hx
          have e1 : (ds.take (i + 1)).filter (fun d => !wholeD 0 (m - 1) d) = (ds.take i).filter (fun d => !wholeD 0 (m - 1) d) ++ if wholeD 0 (m - 1) d = true then [] else [d] := by
            rw [List.take_add_one, hd, List.filter_append]
            cases hh : wholeD 0 (m - 1) d <;> simp [hh]
          have le : ((ds.take i).filter fun d => !wholeD 0 (m - 1) d).length ≤ 300000 := Nat.le_trans (List.length_filter_le _ _) (by rw [List.length_take]; omega)
          walk_at "go"
          refine ⟨w, g, x, d, _, _, rfl, td.same2 S, ?_⟩
          refine ⟨_, rfl, ?_⟩
          cases hh : wholeD 0 (m - 1) d with
          | false =>
            refine ifB (fun _ => ?_) (fun c => by cases c)
            walk_at "go"
            rw [hh] at e1
            refine ⟨_, hD, szl2 (by rw [List.length_map, List.length_map]; omega), ?_, same_mut S nD⟩
            rw [upd_same, e1, if_neg (by decide), List.map_append, List.map_append]
            rfl
          | true =>
            refine ifB (fun c => by cases c) (fun _ => ?_)
            rw [hh] at e1
            refine ⟨?_, S⟩
            rw [hD, e1, if_pos rfl, List.append_nil]
        · obtain ⟨hD, S⟩ := p
          rw [hl, List.take_length] at hD
          walk_at "go"
          intro o no
          generalize hU : upd H2 o _ = H3
          obtain ⟨s3, ho⟩ := new_of0 no hU
          have hD3 := s3 _ _ hD
          refine ⟨.list ((((ds.filter fun d => !wholeD 0 (m - 1) d).map fun _ => (1 : Int))).map PyData.int), .list [], .lst (sqL_of hD3) (dpAll_ints _), .lst (sqL_of ho) .nil, shaped_ints _, by rfl, ?_⟩
          rw [eqv_ints_nil]
          have e : begD m k (.tuple ds) = decide (((ds.filter fun d => !wholeD 0 (m - 1) d).map fun _ => (1 : Int)) = []) := by
            show (decide (ds.length = k) && ds.all (wholeD 0 (m - 1))) = _
            rw [decide_eq_true (by omega), Bool.true_and, Bool.eq_iff_iff, decide_eq_true_eq, List.map_eq_nil_iff, List.filter_eq_nil_iff, List.all_eq_true]
            constructor
            · intro h d hd
              rw [h d hd]
              decide
            · intro h d hd
              have := h d hd
              cases hh : wholeD 0 (m - 1) d with
              | true => rfl
              | false => rw [hh] at this; exact absurd rfl this
          rw [e] at q
          exact q H3 (S.trans s3)
    | _ => exact q H (fun _ _ e => e)
def spWord : Sp := spErr
theorem ok_word : FnOk P wd K mg base CX0 3 T.a_word T.d_word ["_law_value"] spWord := by
  have G_whole : FnOk P wd K mg base CX0 1 T.a_whole T.d_whole ["_law_value", "_law_low", "_law_high"] spWhole := ok_whole T
  have G_numbers : FnOk P wd K mg base CX0 2 T.a_numbers T.d_numbers ["_law_value", "_law_many", "_law_modulus"] spNums := ok_numbers T
  refine T.F_word.ok sc_word (fun vs H Q E h => ?_) (fun cdv A outer s H vs Q E hr h => ?_)
  · obtain ⟨w, g, v, d, rfl, _⟩ := h
    rfl
  · obtain ⟨w, g, v, d, rfl, t, wt, q⟩ := h
    refine ⟨_, (pss_cons (ps_if (PW.pt (pw_or (pt_not (pt_val (pe_callB call_isi rfl T.n_isinstance (by decide +kernel) (pa_cons (pv 0) (pa_cons (pe_bltn (v := .ty "tuple") rfl T.n_tuple (by decide +kernel) rfl) pa_nil))))) (pw_or1 (pt_cmpR op_ne (pe_callB call_len_seq rfl T.n_len PySem.boot_len (pa_cons (pv 0) pa_nil)) pe_int (nomark _))))) (pss_one (ps_ret pe_str)) pss_nil)
      (pss_cons (ps_asg (pv 0) (pg_tup rfl (pgs_cons (pg_name (i := 1) sc_word.nd rfl (Or.inl rfl)) (pgs_cons (pg_name (i := 2) sc_word.nd rfl (Or.inl rfl)) (pgs_cons (pg_name (i := 3) sc_word.nd rfl (Or.inl rfl)) pgs_nil)))))
      (pss_cons (ps_if (pt_not (pt_val (pe_call G_whole (hr.mono (by decide)) rfl T.g_whole T.F_whole.kp (b_whole T) .nil pass0 (pa_cons (pv 1) (pa_cons pe_int (pa_cons pe_int pa_nil)))))) (pss_one (ps_ret pe_str)) pss_nil)
      (pss_cons (ps_set (i := 4) sc_word.nd rfl (Or.inl rfl) (pe_ifExp (pt_val (pe_callB call_isi rfl T.n_isinstance (by decide +kernel) (pa_cons (pv 2) (pa_cons (pe_bltn (v := .ty "tuple") rfl T.n_tuple (by decide +kernel) rfl) pa_nil)))) (pe_callB call_len_seq rfl T.n_len PySem.boot_len (pa_cons (pv 2) pa_nil)) pe_int))
      (pss_cons (ps_if (PW.pt (pw_or (pt_not (pt_chain op_le op_le pe_int (pv 4) pe_int)) (pw_or (PW.pt (pw_and (pt_cmpR op_eq (pv 1) pe_int (nomark _)) (pw_and1 (pt_cmpR op_eq (pv 4) pe_int (nomark _))))) (pw_or1 (pt_not (pt_val (pe_call G_numbers hr rfl T.g_numbers T.F_numbers.kp (b_numbers T) .nil pass0 (pa_cons (pv 2) (pa_cons (pv 4) (pa_cons (pv 1) pa_nil)))))))))) (pss_one (ps_ret pe_str)) pss_nil)
      (pss_one (ps_ret (pe_ifExp (pt_val (pe_call G_numbers hr rfl T.g_numbers T.F_numbers.kp (b_numbers T) .nil pass0 (pa_cons (pv 3) (pa_cons (pv 4) (pa_cons (pv 1) pa_nil))))) pe_non pe_str)))))))), ?_⟩
    obtain ⟨ty, h1, h2⟩ := t.isTup (K := K)
    walk_at "go"
    refine ⟨_, _, ty, _, _, rfl, .ty "tuple", h1, h2, ?_⟩
    refine ⟨_, rfl, ?_⟩
    cases t with
    | tup h ta =>
      rename_i a xs ds
      refine ifB (fun c => by cases c) (fun _ => ?_)
      have hl := ta.length
      walk_at "go"
      refine ifDn (fun c => ?_) (fun n => ?_)
      · walk_at "go"
        have e : errV (.tuple ds) = .str "rule" := by
          refine err_trip ?_
          rcases ds with _ | ⟨d1, _ | ⟨d2, _ | ⟨d3, _ | ⟨d4, ds⟩⟩⟩⟩
          · rfl
          · rfl
          · rfl
          · exact absurd (by rw [hl]; rfl) c
          · rfl
        rw [e] at q
        exact q H (fun _ _ e => e)
      · have n3 := V.int.inj n
        obtain ⟨d1, d2, d3, rfl⟩ : ∃ a b c, ds = [a, b, c] := by
          have x3 : xs.length = 3 := by omega
          rw [x3] at hl
          rcases ds with _ | ⟨d1, _ | ⟨d2, _ | ⟨d3, _ | ⟨d4, ds⟩⟩⟩⟩
          · cases hl
          · cases hl
          · cases hl
          · exact ⟨_, _, _, rfl⟩
          · simp only [List.length_cons] at hl
            omega
        cases ta with
        | cons t1 ta =>
          cases ta with
          | cons t2 ta =>
            cases ta with
            | cons t3 ta =>
              cases ta
              rename_i v1 v2 v3
              simp only [PyData.weight, PyData.weightAll] at wt
              have q' : ∀ H', Same H H' → Q (errR d1 d2 d3) H' := q
              clear q
              walk_at "go"
              refine ⟨w, g, v1, d1, 2, 9, rfl, t1, ?_⟩
              refine ⟨_, rfl, ?_⟩
              unfold errR at q'
              cases r1 : wholeD 2 9 d1 with
              | false =>
                refine ifB (fun _ => ?_) (fun c => by cases c)
                rw [if_pos r1] at q'
                walk_at "go"
                exact q' H (fun _ _ e => e)
              | true =>
                refine ifB (fun c => by cases c) (fun _ => ?_)
                rw [if_neg (by rw [r1]; decide)] at q'
                obtain ⟨m, rfl, m2, m9⟩ := whole_int r1
                replace q' : ∀ H', Same H H' → Q (errF m d2 d3) H' := q'
                cases t1
                obtain ⟨ty2, h5, h6⟩ := t2.isTup (K := K)
                walk_at "go"
                refine ⟨_, _, ty2, _, _, rfl, .ty "tuple", h5, h6, ?_⟩
                refine ⟨_, rfl, ?_⟩
                cases t2 with
                | @tup af xs2 fs hf ta2 =>
                  have hl2 := ta2.length
                  refine ifB (fun _ => ?_) (fun c => by cases c)
                  walk_at "go"
                  refine ite2 (fun c1 => ?_) (fun n1 => ?_)
                  · rw [decide_eq_true_eq] at c1
                    walk_at "go"
                    refine ifDn (fun c2 => ?_) (fun n2 => ?_)
                    · have z : facD m (.tuple fs) = none := by
                        show (if fs.all (wholeD 0 (m - 1)) = true ∧ 1 ≤ fs.length ∧ fs.length ≤ 4 then some fs.length else none) = none
                        exact if_neg fun z => by omega
                      simp only [errF, z] at q'
                      walk_at "go"
                      exact q' H (fun _ _ e => e)
                    · walk_at "go"
                      refine ifD (fun c3 => ?_) (fun n3 => ?_)
                      · have m9' := V.int.inj c3
                        walk_at "go"
                        refine ifD (fun c4 => ?_) (fun n4 => ?_)
                        · have k4 := V.int.inj c4
                          have e : errF m (.tuple fs) d3 = V.str "factors" := by
                            unfold errF
                            by_cases ha : fs.all (wholeD 0 (m - 1)) = true
                            · rw [fac_len ha, if_pos ⟨by omega, by omega⟩]
                              exact if_pos ⟨m9', by omega⟩
                            · rw [fac_none (by exact Bool.eq_false_iff.mpr ha)]
                          have q4 := q' H (fun _ _ e => e)
                          rw [e] at q4
                          exact q4
                        · have nn : ¬ (m = 9 ∧ fs.length = 4) := fun z => n4 (by rw [hl2, z.2]; rfl)
                          walk_at "go"
                          refine ⟨w, g, _, _, fs.length, m, by rw [hl2]; rfl, .tup hf ta2, by omega, fun H2 s2 => ?_⟩
                          refine ⟨_, rfl, ?_⟩
                          have eb : begD m fs.length (.tuple fs) = fs.all (wholeD 0 (m - 1)) := by
                            show (decide (fs.length = fs.length) && _) = _
                            rw [decide_eq_true rfl, Bool.true_and]
                          rw [eb]
                          cases ha : fs.all (wholeD 0 (m - 1)) with
                          | false =>
                            refine ifB (fun _ => ?_) (fun c => by cases c)
                            have z : facD m (.tuple fs) = none := by
                              show (if fs.all (wholeD 0 (m - 1)) = true ∧ 1 ≤ fs.length ∧ fs.length ≤ 4 then some fs.length else none) = none
                              exact if_neg fun z => by rw [ha] at z; cases z.1
                            simp only [errF, z] at q'
                            walk_at "go"
                            exact q' H2 s2
                          | true =>
                            refine ifB (fun c => by cases c) (fun _ => ?_)
                            have z : facD m (.tuple fs) = some fs.length := by
                              rw [fac_len ha, if_pos ⟨by omega, by omega⟩]
                            simp only [errF, z, if_neg nn] at q'
                            walk_at "go"
                            refine ⟨w, g, v3, d3, fs.length, m, by rw [hl2]; rfl, t3.same2 s2, by omega, fun H3 s3 => ?_⟩
                            refine ⟨_, rfl, ?_⟩
                            have q4 := q' H3 (s2.trans s3)
                            cases hb : begD m fs.length d3 with
                            | false =>
                              rw [hb] at q4
                              exact q4
                            | true =>
                              rw [hb] at q4
                              exact q4
                      · have nn : ¬ (m = 9 ∧ fs.length = 4) := fun z => n3 (by rw [z.1])
                        walk_at "go"
                        refine ⟨w, g, _, _, fs.length, m, by rw [hl2]; rfl, .tup hf ta2, by omega, fun H2 s2 => ?_⟩
                        refine ⟨_, rfl, ?_⟩
                        have eb : begD m fs.length (.tuple fs) = fs.all (wholeD 0 (m - 1)) := by
                          show (decide (fs.length = fs.length) && _) = _
                          rw [decide_eq_true rfl, Bool.true_and]
                        rw [eb]
                        cases ha : fs.all (wholeD 0 (m - 1)) with
                        | false =>
                          refine ifB (fun _ => ?_) (fun c => by cases c)
                          have z : facD m (.tuple fs) = none := by
                            show (if fs.all (wholeD 0 (m - 1)) = true ∧ 1 ≤ fs.length ∧ fs.length ≤ 4 then some fs.length else none) = none
                            exact if_neg fun z => by rw [ha] at z; cases z.1
                          simp only [errF, z] at q'
                          walk_at "go"
                          exact q' H2 s2
                        | true =>
                          refine ifB (fun c => by cases c) (fun _ => ?_)
                          have z : facD m (.tuple fs) = some fs.length := by
                            rw [fac_len ha, if_pos ⟨by omega, by omega⟩]
                          simp only [errF, z, if_neg nn] at q'
                          walk_at "go"
                          refine ⟨w, g, v3, d3, fs.length, m, by rw [hl2]; rfl, t3.same2 s2, by omega, fun H3 s3 => ?_⟩
                          refine ⟨_, rfl, ?_⟩
                          have q4 := q' H3 (s2.trans s3)
                          cases hb : begD m fs.length d3 with
                          | false =>
                            rw [hb] at q4
                            exact q4
                          | true =>
                            rw [hb] at q4
                            exact q4
                  · have z : facD m (.tuple fs) = none := by
                      show (if fs.all (wholeD 0 (m - 1)) = true ∧ 1 ≤ fs.length ∧ fs.length ≤ 4 then some fs.length else none) = none
                      exact if_neg fun z => n1 (decide_eq_true (by omega))
                    simp only [errF, z] at q'
                    walk_at "go"
                    exact q' H (fun _ _ e => e)
                | _ =>
                  refine ifB (fun c => by cases c) (fun _ => ?_)
                  walk_at "go"
                  exact q' H (fun _ _ e => e)
    | _ => exact q H (fun _ _ e => e)
end
set_option pp.deepTerms false
set_option pp.deepTerms.threshold 5
section
variable {P : Program} {wd : World} {K : PySem.W.Frag} {mg : Str → Option Value} {base : Heap} (T : Tp K mg)
/-- so many numbers below m -/
def Some_ (k m : Nat) (l : List Nat) : Prop := l.length = k ∧ ∀ v, v ∈ l → v < m
theorem Some_.snoc {k m e : Nat} {l : List Nat} (h : Some_ k m l) (he : e < m) : Some_ (k + 1) m (l ++ [e]) := by
  refine ⟨by rw [List.length_append, h.1]; rfl, fun v hv => ?_⟩
  rcases List.mem_append.mp hv with z | z
  · exact h.2 v z
  · rw [List.mem_singleton.mp z]
    exact he
theorem sz4 {k m : Nat} {l : List Nat} (h : Some_ k m l) (hk : k ≤ 8) : (nV l).length < sizeLine := Nat.lt_of_le_of_lt (by rw [nV_len, h.1]; exact hk) (by decide)
/-- a rule that may be of too many beginnings -/
structure RawAt (H : Hp) (r af ab : Addr) (m k : Nat) (fs bs : List Nat) : Prop where
  at_ : H r = some (.tup [.int m, .ref af, .ref ab])
  fat : H af = some (.tup (nV fs))
  bat : H ab = some (.tup (nV bs))
  m2 : 2 ≤ m
  m9 : m ≤ 9
  k1 : 1 ≤ k
  k4 : k ≤ 4
  fk : Some_ k m fs
  bk : Some_ k m bs
def spRule : Sp := fun vs H Q _ => ∃ (w g c : Addr), vs = [.ref w] ∧ Dk w g c H ∧
  ∀ r af ab m k fs bs H', Go w g H H' → Dk w g c H' → RawAt H' r af ab m k fs bs → Q (.ref r) H'
theorem ok_rule : FnOk P wd K mg base CX0 2 T.a_rule T.d_rule ["_law_deck_here"] spRule := by
  have G_draw : FnOk P wd K mg base CX0 1 T.a_draw T.d_draw ["_law_deck_here", "_law_many"] spDraw := ok_draw T
  refine T.F_rule.ok sc_rule (fun vs H Q E h => ?_) (fun cdv A outer s H vs Q E hr h => ?_)
  · obtain ⟨w, g, c, rfl, _⟩ := h
    rfl
  · obtain ⟨w, g, c, rfl, W, q⟩ := h
    refine ⟨_, (pss_cons (ps_asg (pe_tup (pa_cons (pe_op op_add pe_int (pe_call G_draw hr rfl T.g_draw T.F_draw.kp (b_draw T) .nil pass0 (pa_cons (pv 0) (pa_cons pe_int pa_nil)))) (pa_cons (pe_op op_add pe_int (pe_call G_draw hr rfl T.g_draw T.F_draw.kp (b_draw T) .nil pass0 (pa_cons (pv 0) (pa_cons pe_int pa_nil)))) pa_nil))) (pg_tup rfl (pgs_cons (pg_name (i := 1) sc_rule.nd rfl (Or.inr rfl)) (pgs_cons (pg_name (i := 2) sc_rule.nd rfl (Or.inl rfl)) pgs_nil))))
      (pss_cons (ps_set (i := 3) sc_rule.nd rfl (Or.inl rfl) (pe_callTy call_tuple_of rfl T.n_tuple (by decide +kernel) (pa_cons (pe_lc (own := [("_law_k", 4)]) rfl sc_rule.nd (pi_range1 rfl T.n_range (pa_cons (pv 2) pa_nil)) (blkOk_by (N := nm_rule) (sc := defScope s_rule) (by decide +kernel)) (fun _ _ _ _ _ => pg_name (i := 4) sc_rule.nd rfl (Or.inl rfl)) (fun _ _ _ _ _ => pts_nil) (fun _ _ _ _ _ => (pe_call G_draw hr rfl T.g_draw T.F_draw.kp (b_draw T) .nil pass0 (pa_cons (pv 0) (pa_cons (pv 1) pa_nil))))) pa_nil)))
      (pss_one (ps_ret (pe_tup (pa_cons (pv 1) (pa_cons (pv 3) (pa_cons (pe_callTy call_tuple_of rfl T.n_tuple (by decide +kernel) (pa_cons (pe_lc (own := [("_law_k", 4)]) rfl sc_rule.nd (pi_range1 rfl T.n_range (pa_cons (pv 2) pa_nil)) (blkOk_by (N := nm_rule) (sc := defScope s_rule) (by decide +kernel)) (fun _ _ _ _ _ => pg_name (i := 4) sc_rule.nd rfl (Or.inl rfl)) (fun _ _ _ _ _ => pts_nil) (fun _ _ _ _ _ => (pe_call G_draw hr rfl T.g_draw T.F_draw.kp (b_draw T) .nil pass0 (pa_cons (pv 0) (pa_cons (pv 1) pa_nil))))) pa_nil)) pa_nil)))))))), ?_⟩
    walk_at "go"
    refine ⟨w, g, c, _, rfl, W, by omega, by omega, fun d H1 s1 W1 d0 d1 => ?_⟩
    walk_at "go"
    refine ⟨w, g, c, _, rfl, W1, by omega, by omega, fun e H2 s2 W2 e0 e1 => ?_⟩
    obtain ⟨m, em⟩ : ∃ m : Nat, 2 + d = (m : Int) := ⟨(2 + d).toNat, by omega⟩
    obtain ⟨k, ek⟩ : ∃ k : Nat, 1 + e = (k : Int) := ⟨(1 + e).toNat, by omega⟩
    have m2 : 2 ≤ m := by omega
    have m9 : m ≤ 9 := by omega
    have k1 : 1 ≤ k := by omega
    have k4 : k ≤ 4 := by omega
    refine ⟨_, _, rfl, rfl, ?_⟩
    have S2 := s1.trans s2
    have ek2 : (1 + e).toNat = k := by omega
    iterate 1 (walk_at "go1")
    intro p np
    generalize hU : upd H2 p _ = H3
    obtain ⟨s3, W3, ap⟩ := new_ofC W2 np hU
    have hp : H3 p = some (.tup [.int m, .int k]) := by rw [← em, ← ek]; exact ap.at_
    clear em ek d0 d1 e0 e1 ek2 ap hU s1 s2
    iterate 6 (walk_at "go1")
    refine ⟨by omega, by omega, fun LA nA => ?_⟩
    have S3 := S2.trans (Go.of s3)
    clear S2 s3
    refine lc_it walk_range (fun i H7 => ∃ ls : List Nat, H7 LA = some (.lst (nV ls)) ∧ Some_ i m ls ∧ Dk w g c H7 ∧ Go w g H3 H7) ⟨[], upd_same, ⟨rfl, fun v h => by cases h⟩, W3.same (same_new nA), Go.of (same_new nA)⟩ (fun _ _ _ _ => trivial) (fun i x H7 H8 hi p y => ?_) (fun H7 p => ?_)
    · obtain ⟨ls, hA, so, W7, S7⟩ := p
      obtain ⟨rfl, rfl⟩ := y
      walk_at "go"
      refine ⟨w, g, c, _, rfl, W7, by omega, by omega, fun e H9 s9 W9 e0 e1 => ?_⟩
      obtain ⟨nw, ng, nc⟩ := W3.fresh nA
      obtain ⟨ev, rfl⟩ : ∃ ev : Nat, e = (ev : Int) := ⟨e.toNat, by omega⟩
      exact ⟨_, s9 _ _ nw ng hA, sz4 so (by omega), ls ++ [ev], by rw [upd_same, nV_snoc], so.snoc (by omega), W9.upd nw ng nc, go_upd' (S7.trans s9) nA⟩
    · obtain ⟨fs, hA, sA, W7, S7⟩ := p
      rw [show ((k : Nat) : Int).toNat = k from rfl] at sA
      walk_at "go"
      refine ⟨LA, _, rfl, .inl ⟨sqL_of hA, fun p1 np1 => ?_⟩⟩
      generalize hU1 : upd H7 p1 _ = H8
      obtain ⟨s8, W8, ap1⟩ := new_ofC W7 np1 hU1
      have S8 := (S3.trans S7).trans (Go.of s8)
      clear S3 S7 s8 hU1 np1 hA nA W7 W3
      iterate 4 (walk_at "go1")
      refine ⟨by omega, by omega, fun LB nB => ?_⟩
      refine lc_it walk_range (fun i H9 => ∃ ls : List Nat, H9 LB = some (.lst (nV ls)) ∧ Some_ i m ls ∧ Dk w g c H9 ∧ Go w g H8 H9) ⟨[], upd_same, ⟨rfl, fun v h => by cases h⟩, W8.same (same_new nB), Go.of (same_new nB)⟩ (fun _ _ _ _ => trivial) (fun i x H9 H10 hi p y => ?_) (fun H9 p => ?_)
      · obtain ⟨ls, hB, so, W9, S9⟩ := p
        obtain ⟨rfl, rfl⟩ := y
        walk_at "go"
        refine ⟨w, g, c, _, rfl, W9, by omega, by omega, fun e H11 s11 W11 e0 e1 => ?_⟩
        obtain ⟨nw, ng, nc⟩ := W8.fresh nB
        obtain ⟨ev, rfl⟩ : ∃ ev : Nat, e = (ev : Int) := ⟨e.toNat, by omega⟩
        exact ⟨_, s11 _ _ nw ng hB, sz4 so (by omega), ls ++ [ev], by rw [upd_same, nV_snoc], so.snoc (by omega), W11.upd nw ng nc, go_upd' (S9.trans s11) nB⟩
      · obtain ⟨bs, hB, sB, W9, S9⟩ := p
        rw [show ((k : Nat) : Int).toNat = k from rfl] at sB
        have ap9 := ap1.go S9
        walk_at "go"
        refine ⟨LB, _, rfl, .inl ⟨sqL_of hB, fun p2 np2 => ?_⟩⟩
        generalize hU2 : upd H9 p2 _ = H10
        obtain ⟨s10, W10, ap2⟩ := new_ofC W9 np2 hU2
        walk_at "go"
        intro p3 np3
        generalize hU3 : upd H10 p3 _ = H11
        obtain ⟨s11, W11, ap3⟩ := new_ofC W10 np3 hU3
        exact q p3 p1 p2 m k fs bs H11 ((S8.trans S9).trans (Go.of (s10.trans s11))) W11 ⟨ap3.at_, s11 _ _ (s10 _ _ ap9.at_), s11 _ _ ap2.at_, m2, m9, k1, k4, sA, sB⟩
end
set_option pp.deepTerms false
set_option pp.deepTerms.threshold 5
section
variable {P : Program} {wd : World} {K : PySem.W.Frag} {mg : Str → Option Value} {base : Heap} (T : Tp K mg)
def spOdd : Sp := fun vs H Q _ => ∃ (w g c : Addr), vs = [.ref w] ∧ Dk w g c H ∧ ∀ x d H', Go w g H H' → Dk w g c H' → Th w g H' x d → Bd (10 ^ 30) 200 3 d → Q x H'
theorem upd2 {H : Hp} {p : Addr} {a b : HO} : upd (upd H p a) p b = upd H p b := by
  funext x
  by_cases e : x = p
  · rw [e, upd_same, upd_same]
  · rw [upd_ne e, upd_ne e, upd_ne e]
theorem Ly.dict {m : Str} {w g c p : Addr} {H0 H H1 H' : Hp} {vs : List V} {ds : List PyData} {kvs : List (Key × V)} {ks : List (PyData × PyData)} (y : Ly m w g c H0 H vs ds) (np : H p = none) (hU : upd H p (.dK []) = H1)
    (t : ThKv w g H kvs ks) (hV : upd H1 p (.dK kvs) = H') : Ly m w g c H0 H' (.ref p :: vs) (.dict ks :: ds) := by
  subst hU
  rw [upd2] at hV
  exact y.newD np hV t
theorem bd_mul : Bd (10 ^ 30) 200 3 (.str (Txt.mul (Str.ofString "01") 40)) := by
  have h : ((Txt.mul (Str.ofString "01") 40).cps.toList.all fun c => decide (c < 16 ^ 8)) = true := by decide +kernel
  refine ⟨?_, by decide +kernel, by decide⟩
  simp only [Ok]
  exact fun c hc => of_decide_eq_true (List.all_eq_true.mp h c hc)
theorem ok_odd : FnOk P wd K mg base CX0 3 T.a_odd T.d_odd ["_law_deck_here"] spOdd := by
  have G_draw : FnOk P wd K mg base CX0 1 T.a_draw T.d_draw ["_law_deck_here", "_law_many"] spDraw := ok_draw T
  have G_pick : FnOk P wd K mg base CX0 2 T.a_pick T.d_pick ["_law_deck_here", "_law_items"] spPick := ok_pick T
  refine T.F_odd.ok sc_odd (fun vs H Q E h => ?_) (fun cdv A outer s H vs Q E hr h => ?_)
  · obtain ⟨w, g, c, rfl, _⟩ := h
    rfl
  · obtain ⟨w, g, c, rfl, W, q⟩ := h
    refine ⟨_, (pss_cons (ps_set (i := 1) sc_odd.nd rfl (Or.inl rfl) (pe_lst (pa_cons pe_non (pa_cons pe_bl (pa_cons pe_bl (pa_cons pe_int (pa_cons pe_int (pa_cons pe_int (pa_cons pe_int (pa_cons pe_int (pa_cons (pe_un un_neg pe_int) (pa_cons (pe_op op_pow pe_int pe_int) (pa_cons pe_str (pa_cons pe_str (pa_cons pe_str (pa_cons (pe_tup pa_nil) (pa_cons (pe_lst pa_nil) (pa_cons pe_dnewK (pa_cons (pe_tup (pa_cons pe_int pa_nil)) (pa_cons (pe_lst (pa_cons pe_int pa_nil)) (pa_cons (pe_tup (pa_cons pe_bl pa_nil)) pa_nil)))))))))))))))))))))
      (pss_cons (ps_set (i := 1) sc_odd.nd rfl (Or.inl rfl) (pe_op op_cat (pv 1) (pe_lst (pa_cons (pe_tup (pa_cons (pe_tup pa_nil) pa_nil)) (pa_cons (pe_tup (pa_cons pe_int (pa_cons pe_int pa_nil))) (pa_cons (pe_tup (pa_cons pe_str (pa_cons pe_int (pa_cons pe_int pa_nil)))) (pa_cons (pe_tup (pa_cons pe_non pa_nil)) (pa_cons (pe_disp (pps_cons pe_int pe_int pps_nil) rfl rfl (by simp) (by decide)) (pa_cons (pe_tup (pa_cons pe_int (pa_cons (pe_tup (pa_cons pe_int pa_nil)) (pa_cons (pe_tup (pa_cons pe_int pa_nil)) pa_nil)))) (pa_cons (pe_lst (pa_cons pe_int (pa_cons (pe_tup (pa_cons pe_int pa_nil)) (pa_cons (pe_tup (pa_cons pe_int pa_nil)) pa_nil)))) (pa_cons (pe_op op_mulS pe_str pe_int) pa_nil)))))))))))
      (pss_one (ps_ret (pe_call G_pick hr rfl T.g_pick T.F_pick.kp (b_pick T) .nil pass0 (pa_cons (pv 0) (pa_cons (pe_op op_cat (pv 1) (pe_lst (pa_cons (pe_tup (pa_cons (pe_un un_neg pe_int) pa_nil)) (pa_cons (pe_tup (pa_cons pe_int (pa_cons pe_int (pa_cons pe_int pa_nil)))) pa_nil)))) pa_nil))))))), ?_⟩
    have Y := Ly.nil W
    walk_at "go"
    intro p1 np1
    generalize hU1 : upd _ p1 _ = G1
    replace Y := Y.newT np1 hU1 .nil
    clear hU1 np1
    walk_at "go"
    intro p2 np2
    generalize hU2 : upd _ p2 _ = G2
    replace Y := Y.newL np2 hU2 .nil
    clear hU2 np2
    walk_at "go"
    intro p3 np3
    generalize hU3 : upd _ p3 _ = G3
    replace Y := Y.newD np3 hU3 .nil
    clear hU3 np3
    walk_at "go"
    intro p4 np4
    generalize hU4 : upd _ p4 _ = G4
    replace Y := Y.newT np4 hU4 (.cons (.int 0) .nil)
    clear hU4 np4
    walk_at "go"
    intro p5 np5
    generalize hU5 : upd _ p5 _ = G5
    replace Y := Y.newL np5 hU5 (.cons (.int 0) .nil)
    clear hU5 np5
    walk_at "go"
    intro p6 np6
    generalize hU6 : upd _ p6 _ = G6
    replace Y := Y.newT np6 hU6 (.cons (.bl true) .nil)
    clear hU6 np6
    walk_at "go"
    intro q1 nq1
    generalize hUq : upd _ q1 _ = J1
    obtain ⟨Y, aq1⟩ := Y.newA nq1 hUq
    clear hUq nq1
    have g1 := Y.go
    replace Y : Ly "mixed" w g c J1 J1 _ _ := ⟨fun _ _ _ _ e => e, Y.dk, Y.th⟩
    walk_at "go"
    intro p7 np7
    generalize hU7 : upd _ p7 _ = G7
    replace Y := Y.newT np7 hU7 .nil
    clear hU7 np7
    walk_at "go"
    intro p8 np8
    generalize hU8 : upd _ p8 _ = G8
    replace Y := Y.newT np8 hU8 (.cons Y.th.hd .nil)
    clear hU8 np8
    walk_at "go"
    intro p9 np9
    generalize hU9 : upd _ p9 _ = G9
    replace Y := Y.newT np9 hU9 (.cons (.int 1) (.cons (.int 0) .nil))
    clear hU9 np9
    walk_at "go"
    intro p10 np10
    generalize hU10 : upd _ p10 _ = G10
    replace Y := Y.newT np10 hU10 (.cons (.str _) (.cons (.int 0) (.cons (.int 0) .nil)))
    clear hU10 np10
    walk_at "go"
    intro p11 np11
    generalize hU11 : upd _ p11 _ = G11
    replace Y := Y.newT np11 hU11 (.cons .non .nil)
    clear hU11 np11
    walk_at "go"
    intro q2 nq2
    generalize hU2q : upd _ q2 _ = J2
    have hq2 : J2 q2 = some (.dK []) := by rw [← hU2q]; exact upd_same
    walk_at "go"
    refine ⟨[(Sum.inl 0, .int 1)], rfl, by simp, ?_⟩
    rw [show mergeK [] [((Sum.inl 0 : Key), V.int 1)] = [(Sum.inl 0, V.int 1)] by simp [mergeK, putK]]
    generalize hV2q : upd _ q2 _ = J3
    replace Y := Ly.dict Y nq2 hU2q (.cons (.int 1) .nil) hV2q
    clear hV2q hU2q nq2 hq2
    walk_at "go"
    intro p12 np12
    generalize hU12 : upd _ p12 _ = G12
    replace Y := Y.newT np12 hU12 (.cons (.int 1) .nil)
    clear hU12 np12
    walk_at "go"
    intro p13 np13
    generalize hU13 : upd _ p13 _ = G13
    replace Y := Y.newT np13 hU13 (.cons (.int 1) .nil)
    clear hU13 np13
    walk_at "go"
    intro p14 np14
    generalize hU14 : upd _ p14 _ = G14
    replace Y := Y.newT np14 hU14 (.cons (.int 2) (.cons Y.th.tl.hd (.cons Y.th.hd .nil)))
    clear hU14 np14
    walk_at "go"
    intro p15 np15
    generalize hU15 : upd _ p15 _ = G15
    replace Y := Y.newT np15 hU15 (.cons (.int 1) .nil)
    clear hU15 np15
    walk_at "go"
    intro p16 np16
    generalize hU16 : upd _ p16 _ = G16
    replace Y := Y.newT np16 hU16 (.cons (.int 1) .nil)
    clear hU16 np16
    walk_at "go"
    intro p17 np17
    generalize hU17 : upd _ p17 _ = G17
    replace Y := Y.newL np17 hU17 (.cons (.int 2) (.cons Y.th.tl.hd (.cons Y.th.hd .nil)))
    clear hU17 np17
    walk_at "go"
    intro q3 nq3
    generalize hUq : upd _ q3 _ = J4
    obtain ⟨Y, aq3⟩ := Y.newA nq3 hUq
    clear hUq nq3
    have aq1' := aq1.go Y.go
    refine ⟨q1, q3, _, _, rfl, rfl, aq1'.at_, aq3.at_, szl (by simp), ?_⟩
    intro q4 nq4
    generalize hUq : upd _ q4 _ = J5
    obtain ⟨Y, aq4⟩ := Y.newA nq4 hUq
    clear hUq nq4 aq1 aq1' aq3
    have g2 := g1.trans Y.go
    replace Y : Ly "mixed" w g c J5 J5 _ _ := ⟨fun _ _ _ _ e => e, Y.dk, Y.th⟩
    clear g1
    walk_at "go"
    intro p18 np18
    generalize hU18 : upd _ p18 _ = G18
    replace Y := Y.newT np18 hU18 (.cons (.int (-1)) .nil)
    clear hU18 np18
    walk_at "go"
    intro p19 np19
    generalize hU19 : upd _ p19 _ = G19
    replace Y := Y.newT np19 hU19 (.cons (.int 0) (.cons (.int 0) (.cons (.int 0) .nil)))
    clear hU19 np19
    walk_at "go"
    intro q5 nq5
    generalize hUq : upd _ q5 _ = J6
    obtain ⟨Y, aq5⟩ := Y.newA nq5 hUq
    clear hUq nq5
    have aq4' := aq4.go Y.go
    refine ⟨q4, q5, _, _, rfl, rfl, aq4'.at_, aq5.at_, szl (by simp), ?_⟩
    intro q6 nq6
    generalize hUq : upd _ q6 _ = J7
    obtain ⟨Y, aq6⟩ := Y.newA nq6 hUq
    clear hUq nq6 aq4 aq4' aq5
    have g3 := g2.trans Y.go
    have W7 := Y.dk
    walk_at "go"
    refine ⟨w, g, c, q6, _, rfl, W7, aq6, by simp, by simp, fun x H8 mx s8 W8 => ?_⟩
    suffices hh : ∃ dA dB dC : List PyData, (ThAll w g J7 _ dA ∧ ∀ d ∈ dA, Bd (10 ^ 30) 200 3 d) ∧ (ThAll w g J7 _ dB ∧ ∀ d ∈ dB, Bd (10 ^ 30) 200 3 d) ∧ ThAll w g J7 _ dC ∧ ∀ d ∈ dC, Bd (10 ^ 30) 200 3 d by
      obtain ⟨dA, dB, dC, ⟨tA, bA⟩, ⟨tB, bB⟩, tC, bC⟩ := hh
      obtain ⟨d, hd, tx⟩ := ((tA.append tB).append tC).mem mx
      exact q x d H8 (g3.trans s8) W8 (tx.go2 W7.tups s8) ((List.mem_append.mp hd).elim (fun h => (List.mem_append.mp h).elim (bA d) (bB d)) (bC d))
    refine ⟨_, _, _, ⟨(.cons .non (.cons (.bl true) (.cons (.bl false) (.cons (.int _) (.cons (.int _) (.cons (.int _) (.cons (.int _) (.cons (.int _) (.cons (.int _) (.cons (.int _) (.cons (.str _) (.cons (.str _) (.cons (.str _) (.cons Y.th.tl.tl.tl.tl.tl.tl.tl.tl.tl.tl.tl.tl.tl.tl.tl.tl.tl.tl.tl.hd (.cons Y.th.tl.tl.tl.tl.tl.tl.tl.tl.tl.tl.tl.tl.tl.tl.tl.tl.tl.tl.hd (.cons Y.th.tl.tl.tl.tl.tl.tl.tl.tl.tl.tl.tl.tl.tl.tl.tl.tl.tl.hd (.cons Y.th.tl.tl.tl.tl.tl.tl.tl.tl.tl.tl.tl.tl.tl.tl.tl.tl.hd (.cons Y.th.tl.tl.tl.tl.tl.tl.tl.tl.tl.tl.tl.tl.tl.tl.tl.hd (.cons Y.th.tl.tl.tl.tl.tl.tl.tl.tl.tl.tl.tl.tl.tl.tl.hd .nil))))))))))))))))))), ?_⟩, ⟨(.cons Y.th.tl.tl.tl.tl.tl.tl.tl.tl.tl.tl.tl.tl.hd (.cons Y.th.tl.tl.tl.tl.tl.tl.tl.tl.tl.tl.tl.hd (.cons Y.th.tl.tl.tl.tl.tl.tl.tl.tl.tl.tl.hd (.cons Y.th.tl.tl.tl.tl.tl.tl.tl.tl.tl.hd (.cons Y.th.tl.tl.tl.tl.tl.tl.tl.tl.hd (.cons Y.th.tl.tl.tl.tl.tl.hd (.cons Y.th.tl.tl.hd (.cons (.str _) .nil)))))))), ?_⟩, (.cons Y.th.tl.hd (.cons Y.th.hd .nil)), ?_⟩
    · refine List.forall_mem_cons.mpr ⟨Bd.mono (bd_non (B := 10 ^ 30)) (by decide) (by decide) (by decide), ?_⟩
      refine List.forall_mem_cons.mpr ⟨Bd.mono (bd_bl (B := 10 ^ 30) _) (by decide) (by decide) (by decide), ?_⟩
      refine List.forall_mem_cons.mpr ⟨Bd.mono (bd_bl (B := 10 ^ 30) _) (by decide) (by decide) (by decide), ?_⟩
      refine List.forall_mem_cons.mpr ⟨Bd.mono (bd_int (B := 10 ^ 30) (by decide) (by decide)) (by decide) (by decide) (by decide), ?_⟩
      refine List.forall_mem_cons.mpr ⟨Bd.mono (bd_int (B := 10 ^ 30) (by decide) (by decide)) (by decide) (by decide) (by decide), ?_⟩
      refine List.forall_mem_cons.mpr ⟨Bd.mono (bd_int (B := 10 ^ 30) (by decide) (by decide)) (by decide) (by decide) (by decide), ?_⟩
      refine List.forall_mem_cons.mpr ⟨Bd.mono (bd_int (B := 10 ^ 30) (by decide) (by decide)) (by decide) (by decide) (by decide), ?_⟩
      refine List.forall_mem_cons.mpr ⟨Bd.mono (bd_int (B := 10 ^ 30) (by decide) (by decide)) (by decide) (by decide) (by decide), ?_⟩
      refine List.forall_mem_cons.mpr ⟨Bd.mono (bd_int (B := 10 ^ 30) (by decide) (by decide)) (by decide) (by decide) (by decide), ?_⟩
      refine List.forall_mem_cons.mpr ⟨Bd.mono (bd_int (B := 10 ^ 30) (by decide) (by decide)) (by decide) (by decide) (by decide), ?_⟩
      refine List.forall_mem_cons.mpr ⟨(bd_str (B := 10 ^ 30) (W := 10) _ (by decide +kernel)).mono (by decide) (by decide) (by decide), ?_⟩
      refine List.forall_mem_cons.mpr ⟨(bd_str (B := 10 ^ 30) (W := 10) _ (by decide +kernel)).mono (by decide) (by decide) (by decide), ?_⟩
      refine List.forall_mem_cons.mpr ⟨(bd_str (B := 10 ^ 30) (W := 10) _ (by decide +kernel)).mono (by decide) (by decide) (by decide), ?_⟩
      refine List.forall_mem_cons.mpr ⟨⟨by simp [Ok, OkAll, OkKv, kD], by decide, by decide⟩, ?_⟩
      refine List.forall_mem_cons.mpr ⟨⟨by simp [Ok, OkAll, OkKv, kD], by decide, by decide⟩, ?_⟩
      refine List.forall_mem_cons.mpr ⟨⟨by simp [Ok, OkAll, OkKv, kD], by decide, by decide⟩, ?_⟩
      refine List.forall_mem_cons.mpr ⟨⟨by simp [Ok, OkAll, OkKv, kD], by decide, by decide⟩, ?_⟩
      refine List.forall_mem_cons.mpr ⟨⟨by simp [Ok, OkAll, OkKv, kD], by decide, by decide⟩, ?_⟩
      refine List.forall_mem_cons.mpr ⟨⟨by simp [Ok, OkAll, OkKv, kD], by decide, by decide⟩, ?_⟩
      exact fun d h => (by cases h)
    · refine List.forall_mem_cons.mpr ⟨⟨by simp [Ok, OkAll, OkKv, kD], by decide, by decide⟩, ?_⟩
      refine List.forall_mem_cons.mpr ⟨⟨by simp [Ok, OkAll, OkKv, kD], by decide, by decide⟩, ?_⟩
      refine List.forall_mem_cons.mpr ⟨(BdL.tup ((BdL.one (bd_str (B := 10 ^ 30) (W := 10) "told" (by decide +kernel))).app (es := [.int 0, .int 0]) (W' := 20) ⟨by simp [Ok], by decide, by decide⟩)).mono (by decide) (by decide) (by decide), ?_⟩
      refine List.forall_mem_cons.mpr ⟨⟨by simp [Ok, OkAll, OkKv, kD], by decide, by decide⟩, ?_⟩
      refine List.forall_mem_cons.mpr ⟨⟨by simp [Ok, OkAll, OkKv, kD], by decide, by decide⟩, ?_⟩
      refine List.forall_mem_cons.mpr ⟨⟨by simp [Ok, OkAll, OkKv, kD], by decide, by decide⟩, ?_⟩
      refine List.forall_mem_cons.mpr ⟨⟨by simp [Ok, OkAll, OkKv, kD], by decide, by decide⟩, ?_⟩
      refine List.forall_mem_cons.mpr ⟨bd_mul, ?_⟩
      exact fun d h => (by cases h)
    · refine List.forall_mem_cons.mpr ⟨⟨by simp [Ok, OkAll, OkKv, kD], by decide, by decide⟩, ?_⟩
      refine List.forall_mem_cons.mpr ⟨⟨by simp [Ok, OkAll, OkKv, kD], by decide, by decide⟩, ?_⟩
      exact fun d h => (by cases h)
end
set_option pp.deepTerms false
set_option pp.deepTerms.threshold 5
section
variable {P : Program} {wd : World} {K : PySem.W.Frag} {mg : Str → Option Value} {base : Heap} (T : Tp K mg)
theorem szl3 {n : Nat} (h : n ≤ 200000) : n ≤ sizeLine := Nat.le_trans h (by decide)
theorem no_part {σ : L2.St} {H : Hp} {Q : Option Int → Hp → Prop} (h : Q none H) : tNoPart σ H Q := h
theorem catT {K : PySem.W.Frag} {w g a b : Addr} {H : Hp} {Q : VK} {d1 d2 : List PyData} (ta : Th w g H (.ref a) (.tuple d1)) (tb : Th w g H (.ref b) (.tuple d2)) (hz : d1.length + d2.length ≤ 200000)
    (k : ∀ p H', Same H H' → Th w g H' (.ref p) (.tuple (d1 ++ d2)) → Q (.ref p) H') : rCatA K (.ref a) (.ref b) H Q := by
  cases ta with
  | tup ha t1 =>
    cases tb with
    | tup hb t2 =>
      exact cat_all ha hb (szl3 (by rw [t1.length, t2.length]; exact hz)) fun p H' s h => k p H' s (.tup h ((t1.same2 s).append (t2.same2 s)))
theorem slT {K : PySem.W.Frag} {w g a : Addr} {H : Hp} {Q : VK} {d1 : List PyData} {lo hi : Option Int} (ta : Th w g H (.ref a) (.tuple d1))
    (k : ∀ p H', Same H H' → Th w g H' (.ref p) (.tuple (cutD d1 lo hi)) → Q (.ref p) H') : rSlA K (.ref a) lo hi H Q := by
  cases ta with
  | tup ha t1 => exact sl_all ha fun p H' s h => k p H' s (.tup h ((t1.same2 s).cut _ _))
theorem cutD_len (ds : List PyData) (lo hi : Option Int) : (cutD ds lo hi).length ≤ ds.length := by
  unfold G1.cutD
  rw [List.length_take, List.length_drop]
  omega
def bw (W : Nat) : Nat → Nat
  | 0 => 2 * W + 600
  | n + 1 => 2 * W + bw W n + 600
theorem bw_ge (W : Nat) : ∀ n, 2 * W + 600 ≤ bw W n
  | 0 => Nat.le_refl _
  | n + 1 => by have := bw_ge W n; simp only [bw]; omega
def spBent (n : Nat) : Sp := fun vs H Q _ => ∃ (w g c : Addr) (v : V) (d : PyData) (deep : Nat) (B W D : Nat), vs = [.ref w, v, .int deep] ∧ Dk w g c H ∧ Th w g H v d ∧ Bd B W D d ∧ 10 ^ 30 ≤ B ∧ B + 1 < 10 ^ 38 ∧ W ≤ 50000 ∧ deep < n ∧
  ∀ x d' H', Go w g H H' → Dk w g c H' → Th w g H' x d' → Bd (B + 1) (bw W n) (D + 5) d' → Q x H'
theorem no_bent {L : Nat} : FnOk P wd K mg base CX0 L T.a_bent T.d_bent ["_law_deck_here", "_law_value", "_law_deep"] (spBent 0) :=
  ⟨fun vs H Q E h => by obtain ⟨w, g, c, v, d, deep, B, W, D, _, _, _, _, _, _, _, h, _⟩ := h; exact absurd h (Nat.not_lt_zero _),
   fun A ou s H args us vs Q E _ _ _ _ h => by obtain ⟨w, g, c, v, d, deep, B, W, D, _, _, _, _, _, _, _, h, _⟩ := h; exact absurd h (Nat.not_lt_zero _)⟩
theorem bent_step (n : Nat) (G_bent : FnOk P wd K mg base CX0 (3 + n) T.a_bent T.d_bent ["_law_deck_here", "_law_value", "_law_deep"] (spBent n)) : FnOk P wd K mg base CX0 (3 + n + 1) T.a_bent T.d_bent ["_law_deck_here", "_law_value", "_law_deep"] (spBent (n + 1)) := by
  have G_draw : FnOk P wd K mg base CX0 1 T.a_draw T.d_draw ["_law_deck_here", "_law_many"] spDraw := ok_draw T
  have G_pick : FnOk P wd K mg base CX0 2 T.a_pick T.d_pick ["_law_deck_here", "_law_items"] spPick := ok_pick T
  have G_odd : FnOk P wd K mg base CX0 3 T.a_odd T.d_odd ["_law_deck_here"] spOdd := ok_odd T
  refine T.F_bent.ok sc_bent (fun vs H Q E h => ?_) (fun cdv A outer s H vs Q E hr h => ?_)
  · obtain ⟨w, g, c, v, d, deep, B, W, D, rfl, _⟩ := h
    rfl
  · have hu4 : (cxOf CX0 P wd K mg base nm_bent "_law_bent" (defScope s_bent) T.a_bent cdv A outer s H E).A.units + 64 < cLine := hr.units
    obtain ⟨w, g, c, v, d, deep, B, W, D, rfl, Wk, t, bd, b30, b38, wL, dn, q⟩ := h
    refine ⟨_, (C8.pss_cut (ps_if (PW.pt (pw_and (pt_val (pe_callB call_isi rfl T.n_isinstance (by decide +kernel) (pa_cons (pv 1) (pa_cons (pe_bltn (v := .ty "tuple") rfl T.n_tuple (by decide +kernel) rfl) pa_nil)))) (pw_and (pt_cmpR (op_neT0 hu4) (pv 1) (pe_tup pa_nil) (nomark _)) (pw_and (pt_cmpR op_gt (pv 2) pe_int (nomark _)) (pw_and1 (pt_cmpR op_gt (pe_call G_draw (hr.mono (by omega)) rfl T.g_draw T.F_draw.kp (b_draw T) .nil pass0 (pa_cons (pv 0) (pa_cons pe_int pa_nil))) pe_int (nomark _))))))) (pss_cons (ps_set (i := 3) sc_bent.nd rfl (Or.inl rfl) (pe_call G_draw (hr.mono (by omega)) rfl T.g_draw T.F_draw.kp (b_draw T) .nil pass0 (pa_cons (pv 0) (pa_cons (pe_callB call_len_seq rfl T.n_len PySem.boot_len (pa_cons (pv 1) pa_nil)) pa_nil))))
      (pss_one (ps_ret (pe_op op_catA (pe_op op_catA (pe_slice sl_tupA (pv 1) po_none (po_some (pv 3))) (pe_tup (pa_cons (pe_call G_bent hr rfl T.g_bent T.F_bent.kp (b_bent T) .nil pass0 (pa_cons (pv 0) (pa_cons (pe_ix ix_tup (pv 1) (pv 3) (fun _ _ => rfl)) (pa_cons (pe_op op_sub (pv 2) pe_int) pa_nil)))) pa_nil))) (pe_slice sl_tupA (pv 1) (po_some (pe_op op_add (pv 3) pe_int)) po_none))))) pss_nil)
      (pss_cons (ps_if (pt_val (pe_callB call_isi rfl T.n_isinstance (by decide +kernel) (pa_cons (pv 1) (pa_cons (pe_bltn (v := .ty "tuple") rfl T.n_tuple (by decide +kernel) rfl) pa_nil)))) (pss_cons (ps_set (i := 3) sc_bent.nd rfl (Or.inl rfl) (pe_call G_draw (hr.mono (by omega)) rfl T.g_draw T.F_draw.kp (b_draw T) .nil pass0 (pa_cons (pv 0) (pa_cons (pe_op op_add (pe_callB call_len_seq rfl T.n_len PySem.boot_len (pa_cons (pv 1) pa_nil)) pe_int) pa_nil))))
      (pss_cons (ps_set (i := 4) sc_bent.nd rfl (Or.inl rfl) (pe_lst (pa_cons (pe_callTy call_list_of rfl T.n_list (by decide +kernel) (pa_cons (pv 1) pa_nil)) (pa_cons (pe_op op_catA (pe_slice sl_tupA (pv 1) po_none (po_some (pv 3))) (pe_slice sl_tupA (pv 1) (po_some (pe_op op_add (pv 3) pe_int)) po_none)) (pa_cons (pe_op op_catA (pe_op op_catA (pe_slice sl_tupA (pv 1) po_none (po_some (pv 3))) (pe_tup (pa_cons (pe_call G_odd (hr.mono (by omega)) rfl T.g_odd T.F_odd.kp (b_odd T) .nil pass0 (pa_cons (pv 0) pa_nil)) pa_nil))) (pe_slice sl_tupA (pv 1) (po_some (pv 3)) po_none)) (pa_cons (pe_revT (pv 1)) pa_nil))))))
      (pss_one (ps_ret (pe_call G_pick (hr.mono (by omega)) rfl T.g_pick T.F_pick.kp (b_pick T) .nil pass0 (pa_cons (pv 0) (pa_cons (pe_op op_cat (pv 4) (pe_lst (pa_cons (pe_op op_catA (pv 1) (pe_slice sl_tupA (pv 1) (po_some (pe_un un_neg pe_int)) po_none)) (pa_cons (pe_slice sl_tupA (pv 1) (po_some pe_int) po_none) (pa_cons (pe_call G_odd (hr.mono (by omega)) rfl T.g_odd T.F_odd.kp (b_odd T) .nil pass0 (pa_cons (pv 0) pa_nil)) pa_nil))))) pa_nil))))))) pss_nil)
      (pss_cons (ps_if (pt_val (pe_callB call_isi rfl T.n_isinstance (by decide +kernel) (pa_cons (pv 1) (pa_cons (pe_bltn (v := .ty "int") rfl T.n_int (by decide +kernel) rfl) pa_nil)))) (pss_one (ps_ret (pe_call G_pick (hr.mono (by omega)) rfl T.g_pick T.F_pick.kp (b_pick T) .nil pass0 (pa_cons (pv 0) (pa_cons (pe_lst (pa_cons (pe_op op_addX (pv 1) pe_int) (pa_cons (pe_op op_subX (pv 1) pe_int) (pa_cons (pe_op op_subX (pe_un un_neg pe_int) (pv 1)) (pa_cons (pe_callTy call_bool1 rfl T.n_bool (by decide +kernel) (pa_cons (pv 1) pa_nil)) (pa_cons (pe_callTy call_strX rfl T.n_str (by decide +kernel) (pa_cons (pv 1) pa_nil)) (pa_cons (pe_lst (pa_cons (pv 1) pa_nil)) (pa_cons (pe_call G_odd (hr.mono (by omega)) rfl T.g_odd T.F_odd.kp (b_odd T) .nil pass0 (pa_cons (pv 0) pa_nil)) pa_nil)))))))) pa_nil))))) pss_nil)
      (pss_one (ps_ret (pe_call G_odd (hr.mono (by omega)) rfl T.g_odd T.F_odd.kp (b_odd T) .nil pass0 (pa_cons (pv 0) pa_nil))))))), ?_⟩
    obtain ⟨ty, h1, h2⟩ := t.isTup (K := K)
    refine ⟨fun σ H2 => σ = [some (.ref w), some v, some (.int deep), none, none] ∧ Go w g H H2 ∧ Dk w g c H2, ?_, fun σ H2 px => ?_⟩
    · walk_at "go"
      refine ⟨_, _, ty, _, _, rfl, .ty "tuple", h1, h2, ?_⟩
      cases t with
      | @tup a xs ds h ta =>
        refine ⟨_, rfl, ?_⟩
        refine ifB (fun _ => ?_) (fun c => by cases c)
        have Y := Ly.nil Wk
        walk_at "go"
        intro p1 np1
        generalize hU1 : upd _ p1 _ = G1
        replace Y := Y.newT np1 hU1 .nil
        clear hU1 np1
        have h' := ((Wk.tup h).go Y.go).at_
        have hp1 : G1 p1 = some (.tup []) := by
          cases Y.th.hd with
          | tup h t => cases t; exact h
        refine ⟨a, p1, xs, rfl, rfl, sqT_of h', sqT_of hp1, ?_⟩
        refine ⟨_, rfl, ?_⟩
        have hl := ta.length
        have bl := bd.un.2.len
        by_cases hx : xs = []
        · rw [hx]
          exact ifB (fun c => by cases c) (fun _ => ifF ⟨rfl, Y.go, Y.dk⟩)
        · have hn : (!xs.isEmpty) = true := by
            cases xs with
            | nil => exact absurd rfl hx
            | cons _ _ => rfl
          have l0 : 0 < xs.length := by
            cases xs with
            | nil => exact absurd rfl hx
            | cons _ _ => simp
          refine ifB (fun _ => ?_) (fun c => by rw [hn] at c; cases c)
          walk_at "go"
          refine ifD (fun dp => ?_) (fun _ => ifF ⟨rfl, Y.go, Y.dk⟩)
          walk_at "go"
          refine ⟨w, g, c, _, rfl, Y.dk, by omega, by omega, fun e H3 s3 W3 e0 e1 => ?_⟩
          walk_at "go"
          refine ifD (fun _ => ?_) (fun _ => ⟨rfl, Y.go.trans s3, W3⟩)
          replace Y := Y.goes s3 W3
          have h3 := ((Wk.tup h).go Y.go).at_
          walk_at "go"
          refine ⟨w, g, c, _, rfl, Y.dk, by omega, by omega, fun at_ H4 s4 W4 at0 at1 => ?_⟩
          replace Y := Y.goes s4 W4
          have h4 := ((Wk.tup h).go Y.go).at_
          clear h3 s3 s4 W3 W4 h'
          obtain ⟨j, rfl⟩ : ∃ j : Nat, at_ = (j : Int) := ⟨at_.toNat, by omega⟩
          walk_at "go"
          refine sl_all h4 fun pA H5 s5 hA => ?_
          replace Y := Y.same s5
          have h5 := s5 _ _ h4
          obtain ⟨x, hx2⟩ : ∃ x, xs[j]? = some x := ⟨_, List.getElem?_eq_getElem (by omega)⟩
          obtain ⟨d2, hd2, td2⟩ := ta.get hx2
          walk_at "go"
          have dI : ((deep : Nat) : Int) - 1 = ((deep - 1 : Nat) : Int) := by omega
          have td5 := td2.go2 Wk.tups Y.go
          have bdu := bd.un
          have bd2 := bdu.2.mem (List.mem_of_getElem? hd2)
          refine ⟨w, g, c, x, d2, deep - 1, B, W, D - 1, by rw [← dI]; rfl, Y.dk, td5, bd2, b30, b38, wL, by omega, fun x3 d3 H6 s6 W6 t6 bd3 => ?_⟩
          have hA6 := ((Y.dk.tup hA).go s6).at_
          replace Y := Y.goes s6 W6
          have h6 := ((Wk.tup h).go Y.go).at_
          have ta6 := ta.go2 Wk.tups Y.go
          walk_at "go"
          intro pB npB
          generalize hU : upd H6 pB _ = H7
          obtain ⟨s7, W7, aB⟩ := new_ofC Y.dk npB hU
          replace Y := Y.same s7
          have lA := cutV_length xs none (some (j : Int))
          refine cat_all (s7 _ _ hA6) aB.at_ (szl3 (by simp; omega)) fun pC H8 s8 hC => ?_
          replace Y := Y.same s8
          have h8 := ((Wk.tup h).go Y.go).at_
          walk_at "go"
          refine no_part ?_
          refine sl_all h8 fun pD H9 s9 hD => ?_
          replace Y := Y.same s9
          have lD := cutV_length xs (some ((j : Int) + 1)) none
          refine cat_all (s9 _ _ hC) hD (szl3 (by simp; omega)) fun pE H10 s10 hE => ?_
          replace Y := Y.same s10
          have t10 : Th w g H10 x3 d3 := t6.same2 (((s7.trans s8).trans s9).trans s10)
          have ta10 := ta.go2 Wk.tups Y.go
          refine q _ _ H10 Y.go Y.dk (.tup hE (((ta10.cut _ _).append (.cons t10 .nil)).append (ta10.cut _ _))) ?_
          have hb : BdL (B + 1) (bw W (n + 1)) (D - 1 + 5) ((cutD ds none (some (j : Int)) ++ [d3]) ++ cutD ds (some ((j : Int) + 1)) none) :=
            ((((bdu.2.cut none (some (j : Int))).mono (Nat.le_succ B) (Nat.le_refl _) (Nat.le_add_right _ 5)).app (BdL.one bd3)).app ((bdu.2.cut (some ((j : Int) + 1)) none).mono (Nat.le_succ B) (Nat.le_refl _) (Nat.le_add_right _ 5))).mono (Nat.le_refl _) (by simp only [bw]; omega) (Nat.le_refl _)
          exact hb.tup.mono (Nat.le_refl _) (Nat.le_refl _) (by have := bdu.1; omega)
      | _ => exact ⟨_, rfl, ifF ⟨rfl, fun _ _ _ _ e => e, Wk⟩⟩
    · have Wk0 := Wk
      obtain ⟨rfl, S, Wk⟩ := px
      have t2 := t.go2 Wk0.tups S
      obtain ⟨ty, h1, h2⟩ := t2.isTup (K := K)
      walk_at "go"
      refine ⟨_, _, ty, _, _, rfl, .ty "tuple", h1, h2, ?_⟩
      refine ⟨_, rfl, ?_⟩
      have Y : Ly "mixed" w g c H H2 [] [] := ⟨S, Wk, .nil⟩
      cases t2 with
      | @tup a xs ds h ta =>
        refine ifB (fun _ => ?_) (fun c => by cases c)
        have hl := ta.length
        have bdu := bd.un
        have bl := bdu.2.len
        walk_at "go"
        refine ⟨w, g, c, _, rfl, Y.dk, by omega, by omega, fun at_ H3 s3 W3 at0 at1 => ?_⟩
        replace Y := Y.goes s3 W3
        have h3 := ((Wk.tup h).go s3).at_
        have ta3 := ta.go2 Wk.tups s3
        clear s3 W3
        walk_at "go"
        intro p2 np2
        generalize hU2 : upd _ p2 _ = G2
        replace Y := Y.newL np2 hU2 ta3
        clear hU2 np2
        have t0 : Th w g G2 (.ref a) (.tuple ds) := t.go2 Wk0.tups Y.go
        walk_at "go"
        refine slT t0 fun p1 H4 s4 t4 => ?_
        replace Y := (Y.same s4).more t4
        have t0 : Th w g _ (.ref a) (.tuple ds) := t.go2 Wk0.tups Y.go
        walk_at "go"
        refine no_part ?_
        refine slT t0 fun p2 H5 s5 t5 => ?_
        replace Y := Y.same s5
        have c1 := cutD_len ds none (some at_)
        have c2 := cutD_len ds (some (at_ + 1)) none
        have c3 := cutD_len ds (some at_) none
        refine catT Y.th.hd t5 (by omega) fun p3 H6 s6 t6 => ?_
        replace Y := (Y.same s6).more t6
        have t0 : Th w g _ (.ref a) (.tuple ds) := t.go2 Wk0.tups Y.go
        walk_at "go"
        refine slT t0 fun p4 H7 s7 t7 => ?_
        replace Y := (Y.same s7).more t7
        walk_at "go"
        refine ⟨w, g, c, rfl, Y.dk, fun x1 d1 H8 s8 W8 t8 bo1 => ?_⟩
        replace Y := Y.goes s8 W8
        walk_at "go"
        intro p3 np3
        generalize hU3 : upd _ p3 _ = G3
        replace Y := Y.newT np3 hU3 (.cons t8 .nil)
        clear hU3 np3
        refine catT Y.th.tl.hd Y.th.hd (by simp; omega) fun p5 H9 s9 t9 => ?_
        replace Y := (Y.same s9).more t9
        have t0 : Th w g _ (.ref a) (.tuple ds) := t.go2 Wk0.tups Y.go
        walk_at "go"
        refine no_part ?_
        refine slT t0 fun p6 H10 s10 t10 => ?_
        replace Y := Y.same s10
        refine catT Y.th.hd t10 (by simp; omega) fun p7 H11 s11 t11 => ?_
        replace Y := (Y.same s11).more t11
        have t0 : Th w g _ (.ref a) (.tuple ds) := t.go2 Wk0.tups Y.go
        have h11 : ∃ xs', H11 a = some (.tup xs') ∧ ThAll w g H11 xs' ds := by
          cases t0 with
          | tup h t => exact ⟨_, h, t⟩
        obtain ⟨xs', h11, tx⟩ := h11
        walk_at "go"
        intro p4 np4
        generalize hU4 : upd _ p4 _ = G4
        replace Y := Y.newT np4 hU4 tx.rev
        clear hU4 np4
        walk_at "go"
        intro q1 nq1
        generalize hUq : upd _ q1 _ = J1
        obtain ⟨Y, aq1⟩ := Y.newA nq1 hUq
        clear hUq nq1 h11 tx
        have gA := Y.go
        replace Y : Ly "mixed" w g c J1 J1 _ _ := ⟨fun _ _ _ _ e => e, Y.dk, Y.th⟩
        have t0 : Th w g _ (.ref a) (.tuple ds) := t.go2 Wk0.tups (gA.trans Y.go)
        walk_at "go"
        refine no_part ?_
        refine slT t0 fun p8 H12 s12 t12 => ?_
        replace Y := Y.same s12
        have t0 : Th w g _ (.ref a) (.tuple ds) := t.go2 Wk0.tups (gA.trans Y.go)
        have c4 := cutD_len ds (some (-1)) none
        refine catT t0 t12 (by omega) fun p9 H13 s13 t13 => ?_
        replace Y := (Y.same s13).more t13
        have t0 : Th w g _ (.ref a) (.tuple ds) := t.go2 Wk0.tups (gA.trans Y.go)
        walk_at "go"
        refine no_part ?_
        refine slT t0 fun p10 H14 s14 t14 => ?_
        replace Y := (Y.same s14).more t14
        walk_at "go"
        refine ⟨w, g, c, rfl, Y.dk, fun x2 d2 H15 s15 W15 t15 bo2 => ?_⟩
        replace Y := (Y.goes s15 W15).more t15
        walk_at "go"
        intro q2 nq2
        generalize hUq : upd _ q2 _ = J2
        obtain ⟨Y, aq2⟩ := Y.newA nq2 hUq
        clear hUq nq2
        refine ⟨q1, q2, _, _, rfl, rfl, (aq1.go Y.go).at_, aq2.at_, szl (by simp), ?_⟩
        intro q3 nq3
        generalize hUq : upd _ q3 _ = J3
        obtain ⟨Y, aq3⟩ := Y.newA nq3 hUq
        clear hUq nq3 aq1 aq2
        have gB := gA.trans Y.go
        have W7 := Y.dk
        walk_at "go"
        refine ⟨w, g, c, q3, _, rfl, W7, aq3, by simp, by simp, fun x H8 mx s8 W8 => ?_⟩
        suffices hh : ∃ dA dB : List PyData, (ThAll w g J3 _ dA ∧ ∀ d ∈ dA, Bd (B + 1) (bw W (n + 1)) (D + 5) d) ∧ ThAll w g J3 _ dB ∧ ∀ d ∈ dB, Bd (B + 1) (bw W (n + 1)) (D + 5) d by
          obtain ⟨dA, dB, ⟨tA, bA⟩, tB, bB⟩ := hh
          obtain ⟨d, hd, tx⟩ := (tA.append tB).mem mx
          exact q x d H8 (gB.trans s8) W8 (tx.go2 W7.tups s8) ((List.mem_append.mp hd).elim (bA d) (bB d))
        have bg := bw_ge W (n + 1)
        have bL : BdL (B + 1) W (D + 4) ds := bdu.2.mono (Nat.le_succ B) (Nat.le_refl W) (by omega)
        refine ⟨_, _, ⟨.cons Y.th.tl.tl.tl.tl.tl.tl.tl.tl.tl.tl.hd (.cons Y.th.tl.tl.tl.tl.tl.tl.tl.tl.hd (.cons Y.th.tl.tl.tl.tl.hd (.cons Y.th.tl.tl.tl.hd .nil))), ?_⟩, .cons Y.th.tl.tl.hd (.cons Y.th.tl.hd (.cons Y.th.hd .nil)), ?_⟩
        · refine List.forall_mem_cons.mpr ⟨bL.lst.mono (Nat.le_refl _) (by omega) (Nat.le_refl _), ?_⟩
          refine List.forall_mem_cons.mpr ⟨((bL.cut _ _).app (bL.cut _ _)).tup.mono (Nat.le_refl _) (by omega) (Nat.le_refl _), ?_⟩
          refine List.forall_mem_cons.mpr ⟨(((bL.cut _ _).app (BdL.one (bo1.mono (by omega) (Nat.le_refl _) (by omega)))).app (bL.cut _ _)).tup.mono (Nat.le_refl _) (by omega) (Nat.le_refl _), ?_⟩
          refine List.forall_mem_cons.mpr ⟨bL.rev.tup.mono (Nat.le_refl _) (by omega) (Nat.le_refl _), ?_⟩
          exact fun d h => (by cases h)
        · refine List.forall_mem_cons.mpr ⟨(bL.app (bL.cut _ _)).tup.mono (Nat.le_refl _) (by omega) (Nat.le_refl _), ?_⟩
          refine List.forall_mem_cons.mpr ⟨(bL.cut _ _).tup.mono (Nat.le_refl _) (by omega) (Nat.le_refl _), ?_⟩
          refine List.forall_mem_cons.mpr ⟨bo2.mono (by omega) (by omega) (by omega), ?_⟩
          exact fun d h => (by cases h)
      | int i =>
        refine ifB (fun c => by cases c) (fun _ => ?_)
        have iB : i.natAbs ≤ B := by have := bd.ok; simpa [Ok] using this
        obtain ⟨ty3, h3, h4⟩ := (t.go2 Wk0.tups S).isInt (K := K)
        walk_at "go"
        refine ⟨_, _, ty3, _, _, rfl, .ty "int", h3, h4, ?_⟩
        refine ⟨_, rfl, ?_⟩
        refine ifB (fun _ => ?_) (fun c => by cases c)
        walk_at "go"
        refine Or.inl ?_
        refine ⟨i, 1, rfl, rfl, ?_⟩
        walk_at "go"
        refine Or.inl ?_
        refine ⟨i, 1, rfl, rfl, ?_⟩
        walk_at "go"
        refine Or.inl ?_
        refine ⟨-1, i, rfl, rfl, ?_⟩
        walk_at "go"
        refine ⟨log_of (B := B) iB (by omega), ?_⟩
        walk_at "go"
        intro p5 np5
        generalize hU5 : upd _ p5 _ = G5
        replace Y := Y.newL np5 hU5 (.cons (.int _) .nil)
        clear hU5 np5
        walk_at "go"
        refine ⟨w, g, c, rfl, Y.dk, fun x2 d2 H15 s15 W15 t15 bo2 => ?_⟩
        replace Y := (Y.goes s15 W15).more t15
        walk_at "go"
        intro q2 nq2
        generalize hUq : upd _ q2 _ = J2
        obtain ⟨Y, aq2⟩ := Y.newA nq2 hUq
        clear hUq nq2
        have W7 := Y.dk
        walk_at "go"
        refine ⟨w, g, c, q2, _, rfl, W7, aq2, by simp, by simp, fun x H8 mx s8 W8 => ?_⟩
        suffices hh : ∃ dA : List PyData, ThAll w g J2 _ dA ∧ ∀ d ∈ dA, Bd (B + 1) (bw W (n + 1)) (D + 5) d by
          obtain ⟨dA, tA, bA⟩ := hh
          obtain ⟨d, hd, tx⟩ := tA.mem mx
          exact q x d H8 (Y.go.trans s8) W8 (tx.go2 W7.tups s8) (bA d hd)
        have bg := bw_ge W (n + 1)
        refine ⟨_, .cons (.int _) (.cons (.int _) (.cons (.int _) (.cons (.bl _) (.cons (.str _) (.cons Y.th.tl.hd (.cons Y.th.hd .nil)))))), ?_⟩
        refine List.forall_mem_cons.mpr ⟨Bd.mono (bd_int (B := B + 1) (by omega) b38) (Nat.le_refl _) (by omega) (by omega), ?_⟩
        refine List.forall_mem_cons.mpr ⟨Bd.mono (bd_int (B := B + 1) (by omega) b38) (Nat.le_refl _) (by omega) (by omega), ?_⟩
        refine List.forall_mem_cons.mpr ⟨Bd.mono (bd_int (B := B + 1) (by omega) b38) (Nat.le_refl _) (by omega) (by omega), ?_⟩
        refine List.forall_mem_cons.mpr ⟨Bd.mono (bd_bl (B := B + 1) _) (Nat.le_refl _) (by omega) (by omega), ?_⟩
        refine List.forall_mem_cons.mpr ⟨Bd.mono (bd_str (B := B + 1) (W := 100) _ (by have := int_text_length_le10 (a := i) (k := 38) (by decide) (by omega); rw [PySem.ofString_length]; omega)) (Nat.le_refl _) (by omega) (by omega), ?_⟩
        refine List.forall_mem_cons.mpr ⟨Bd.mono (BdL.lst (BdL.one (bd_int (B := B + 1) (by omega) b38))) (Nat.le_refl _) (by omega) (by omega), ?_⟩
        refine List.forall_mem_cons.mpr ⟨bo2.mono (by omega) (by omega) (by omega), ?_⟩
        exact fun d h => (by cases h)
      | bl b =>
        refine ifB (fun c => by cases c) (fun _ => ?_)
        obtain ⟨ty3, h3, h4⟩ := (t.go2 Wk0.tups S).isInt (K := K)
        walk_at "go"
        refine ⟨_, _, ty3, _, _, rfl, .ty "int", h3, h4, ?_⟩
        refine ⟨_, rfl, ?_⟩
        refine ifB (fun _ => ?_) (fun c => by cases c)
        walk_at "go"
        refine Or.inr ⟨b, 1, rfl, rfl, ?_⟩
        walk_at "go"
        refine Or.inr (Or.inl ⟨b, 1, rfl, rfl, ?_⟩)
        walk_at "go"
        refine Or.inr (Or.inr ⟨-1, b, rfl, rfl, ?_⟩)
        walk_at "go"
        refine Or.inr ⟨b, rfl, ?_⟩
        walk_at "go"
        refine Or.inr ⟨b, rfl, ?_⟩
        walk_at "go"
        intro p6 np6
        generalize hU6 : upd _ p6 _ = G6
        replace Y := Y.newL np6 hU6 (.cons (.bl _) .nil)
        clear hU6 np6
        walk_at "go"
        refine ⟨w, g, c, rfl, Y.dk, fun x2 d2 H15 s15 W15 t15 bo2 => ?_⟩
        replace Y := (Y.goes s15 W15).more t15
        walk_at "go"
        intro q2 nq2
        generalize hUq : upd _ q2 _ = J2
        obtain ⟨Y, aq2⟩ := Y.newA nq2 hUq
        clear hUq nq2
        have W7 := Y.dk
        walk_at "go"
        refine ⟨w, g, c, q2, _, rfl, W7, aq2, by simp, by simp, fun x H8 mx s8 W8 => ?_⟩
        suffices hh : ∃ dA : List PyData, ThAll w g J2 _ dA ∧ ∀ d ∈ dA, Bd (B + 1) (bw W (n + 1)) (D + 5) d by
          obtain ⟨dA, tA, bA⟩ := hh
          obtain ⟨d, hd, tx⟩ := tA.mem mx
          exact q x d H8 (Y.go.trans s8) W8 (tx.go2 W7.tups s8) (bA d hd)
        have bg := bw_ge W (n + 1)
        refine ⟨_, .cons (.int _) (.cons (.int _) (.cons (.int _) (.cons (.bl _) (.cons (.str _) (.cons Y.th.tl.hd (.cons Y.th.hd .nil)))))), ?_⟩
        refine List.forall_mem_cons.mpr ⟨Bd.mono (bd_int (B := B + 1) (by cases b <;> (show _ ≤ B + 1; first | (simp; done) | (simp; omega))) b38) (Nat.le_refl _) (by omega) (by omega), ?_⟩
        refine List.forall_mem_cons.mpr ⟨Bd.mono (bd_int (B := B + 1) (by cases b <;> (show _ ≤ B + 1; first | (simp; done) | (simp; omega))) b38) (Nat.le_refl _) (by omega) (by omega), ?_⟩
        refine List.forall_mem_cons.mpr ⟨Bd.mono (bd_int (B := B + 1) (by cases b <;> (show _ ≤ B + 1; first | (simp; done) | (simp; omega))) b38) (Nat.le_refl _) (by omega) (by omega), ?_⟩
        refine List.forall_mem_cons.mpr ⟨Bd.mono (bd_bl (B := B + 1) _) (Nat.le_refl _) (by omega) (by omega), ?_⟩
        refine List.forall_mem_cons.mpr ⟨by cases b <;> exact Bd.mono (bd_str (B := B + 1) (W := 100) _ (by decide +kernel)) (Nat.le_refl _) (by omega) (by omega), ?_⟩
        refine List.forall_mem_cons.mpr ⟨Bd.mono (BdL.lst (BdL.one (bd_bl (B := B + 1) _))) (Nat.le_refl _) (by omega) (by omega), ?_⟩
        refine List.forall_mem_cons.mpr ⟨bo2.mono (by omega) (by omega) (by omega), ?_⟩
        exact fun d h => (by cases h)
      | _ =>
        refine ifB (fun c => by cases c) (fun _ => ?_)
        obtain ⟨ty3, h3, h4⟩ := (t.go2 Wk0.tups S).isInt (K := K)
        walk_at "go"
        refine ⟨_, _, ty3, _, _, rfl, .ty "int", h3, h4, ?_⟩
        refine ⟨_, rfl, ?_⟩
        refine ifB (fun c => by cases c) (fun _ => ?_)
        walk_at "go"
        refine ⟨w, g, c, rfl, Y.dk, fun x2 d2 H15 s15 W15 t15 bo2 => ?_⟩
        have bg := bw_ge W (n + 1)
        exact q x2 d2 H15 (Y.go.trans s15) W15 t15 (bo2.mono (by omega) (by omega) (by omega))
end
set_option pp.deepTerms false
set_option pp.deepTerms.threshold 5
section
variable {P : Program} {wd : World} {K : PySem.W.Frag} {mg : Str → Option Value} {base : Heap} (T : Tp K mg)
theorem ok_bent : FnOk P wd K mg base CX0 6 T.a_bent T.d_bent ["_law_deck_here", "_law_value", "_law_deep"] (spBent 3) := bent_step T 2 (bent_step T 1 (bent_step T 0 (no_bent T)))
section
variable {w g c p q a b : Addr} {H H' H0 : Hp} {vs : List V} {ds : List PyData} {n k W0 D0 : Nat} {Q : VK}
theorem RawAt.go {r af ab : Addr} {m : Nat} {fs bs : List Nat} (R : RawAt H r af ab m k fs bs) (W : Dk w g c H) (s : Go w g H H') : RawAt H' r af ab m k fs bs :=
  ⟨((W.tup R.at_).go s).at_, ((W.tup R.fat).go s).at_, ((W.tup R.bat).go s).at_, R.m2, R.m9, R.k1, R.k4, R.fk, R.bk⟩
/-- a list of n things that are not too great -/
def Lst (w g c : Addr) (H : Hp) (q : Addr) (n W0 D0 : Nat) : Prop := ∃ xs ds, Ac w g c H q (.lst xs) ∧ ThAll w g H xs ds ∧ (∀ d ∈ ds, Bd (10 ^ 30) W0 D0 d) ∧ xs.length = n
theorem Lst.go (L : Lst w g c H q n W0 D0) (W : Dk w g c H) (s : Go w g H H') : Lst w g c H' q n W0 D0 := by
  obtain ⟨xs, ds, h1, h2, h3, h4⟩ := L
  exact ⟨xs, ds, h1.go s, h2.go2 W.tups s, h3, h4⟩
theorem newLst {xs : List V} {es : List PyData} (y : Ly "mixed" w g c H0 H vs ds) (np : H p = none) (hU : upd H p (.lst xs) = H') (t : ThAll w g H xs es) (hb : ∀ d ∈ es, Bd (10 ^ 30) W0 D0 d) :
    Ly "mixed" w g c H0 H' vs ds ∧ Lst w g c H' p xs.length W0 D0 := by
  obtain ⟨s, W, x⟩ := new_ofC y.dk np hU
  exact ⟨⟨y.go.trans (Go.of s), W, y.th.same2 s⟩, xs, es, x, t.same2 s, hb, rfl⟩
theorem catLst (W : Dk w g c H) (x : Lst w g c H a n W0 D0) (y : Lst w g c H b k W0 D0) (hz : n + k ≤ 1000) (h : ∀ p H', Go w g H H' → Dk w g c H' → Lst w g c H' p (n + k) W0 D0 → Q (.ref p) H') : rCat (.ref a) (.ref b) H Q := by
  obtain ⟨xs, ds, h1, h2, h3, h4⟩ := x
  obtain ⟨ys, es, k1, k2, k3, k4⟩ := y
  refine ⟨a, b, xs, ys, rfl, rfl, h1.at_, k1.at_, Nat.le_trans (by rw [h4, k4]; exact hz) (by decide), fun p np => ?_⟩
  obtain ⟨s, W', z⟩ := new_ofC W np rfl
  exact h p _ (Go.of s) W' ⟨xs ++ ys, ds ++ es, z, (h2.same2 s).append (k2.same2 s), fun d hd => (List.mem_append.mp hd).elim (h3 d) (k3 d), by rw [List.length_append, h4, k4]⟩
theorem pickL {E : XK} (W : Dk w g c H) (L : Lst w g c H q n W0 D0) (n0 : 0 < n) (n1 : n < 1000) (h : ∀ x d H', Go w g H H' → Dk w g c H' → Th w g H' x d → Bd (10 ^ 30) W0 D0 d → Q x H') : spPick [.ref w, .ref q] H Q E := by
  obtain ⟨xs, ds, h1, h2, h3, h4⟩ := L
  refine ⟨w, g, c, q, xs, rfl, W, h1, by omega, by omega, fun x H8 mx s8 W8 => ?_⟩
  obtain ⟨d, hd, tx⟩ := h2.mem mx
  exact h x d H8 s8 W8 (tx.go2 W.tups s8) (h3 d hd)
abbrev FD (l : List Nat) : List PyData := l.map fun k => PyData.int (k : Nat)
theorem th_nV : ∀ l : List Nat, ThAll w g H (nV l) (FD l)
  | [] => .nil
  | x :: l => .cons (.int _) (th_nV l)
theorem BdL.nil {B W D : Nat} : BdL B W D [] := ⟨fun d h => (by cases h), by simp [PyData.weightAll], fun d h => (by cases h)⟩
theorem tup3 {B W1 W2 W3 D : Nat} {a b c : PyData} (x : Bd B W1 D a) (y : Bd B W2 D b) (z : Bd B W3 D c) : Bd B (W1 + 1 + (W2 + 1 + (W3 + 1))) (D + 1) (.tuple [a, b, c]) := ((BdL.one x).app ((BdL.one y).app (BdL.one z))).tup
theorem bI {i : Int} (h : i.natAbs ≤ 10 ^ 30) : Bd (10 ^ 30) 127 3 (.int i) := (bd_int h (by decide)).mono (Nat.le_refl _) (Nat.le_refl _) (by decide)
theorem bd_FD : ∀ l : List Nat, (∀ v, v ∈ l → v < 10) → BdL (10 ^ 30) (128 * l.length) 0 (FD l)
  | [], _ => BdL.nil
  | x :: l, h => by
    have := (BdL.one (bd_int (B := 10 ^ 30) (i := (x : Nat)) (by have := h x List.mem_cons_self; omega) (by decide))).app (bd_FD l fun v hv => h v (List.mem_cons_of_mem _ hv))
    exact this.mono (Nat.le_refl _) (by rw [List.length_cons]; omega) (Nat.le_refl _)
theorem th_rep {xs : List V} {ds : List PyData} (t : ThAll w g H xs ds) : ∀ n, ThAll w g H (List.replicate n xs).flatten (List.replicate n ds).flatten
  | 0 => .nil
  | n + 1 => by
    rw [List.replicate_succ, List.flatten_cons, List.replicate_succ, List.flatten_cons]
    exact t.append (th_rep t n)
theorem bd_rep {B W D : Nat} {ds : List PyData} (t : BdL B W D ds) : ∀ n, BdL B (n * W) D (List.replicate n ds).flatten
  | 0 => BdL.nil
  | n + 1 => by
    rw [List.replicate_succ, List.flatten_cons]
    exact (t.app (bd_rep t n)).mono (Nat.le_refl _) (by rw [Nat.succ_mul]; omega) (Nat.le_refl _)
theorem c_part {v : V} {σ : L2.St} (h : Q v H) : tC v σ H Q := h
theorem repT {K : PySem.W.Frag} {d1 : List PyData} (ta : Th w g H (.ref a) (.tuple d1)) (h0 : d1 ≠ []) {j : Int} (j1 : 1 ≤ j) (j2 : j ≤ 100) (hz : d1.length ≤ 1000)
    (h : ∀ p H', Same H H' → Th w g H' (.ref p) (.tuple (List.replicate j.toNat d1).flatten) → Q (.ref p) H') : rRepA K (.ref a) (.int j) H Q := by
  cases ta with
  | tup ha t1 =>
    have hl := t1.length
    refine rep_all ha (fun e => h0 ?_) j1 (by omega) ?_ fun p H' s hp => h p H' s (.tup hp (th_rep (t1.same2 s) _))
    · rw [e] at hl
      exact List.eq_nil_of_length_eq_zero hl.symm
    · rw [hl]
      exact Nat.le_trans (Nat.mul_le_mul (by omega : j.toNat ≤ 100) hz) (by decide)
end
def spSpoilt : Sp := fun vs H Q _ => ∃ (w g c r af ab : Addr) (m k : Nat) (fs bs : List Nat), vs = [.ref w, .ref r] ∧ Dk w g c H ∧ RawAt H r af ab m k fs bs ∧
  ∀ p n H', Go w g H H' → Dk w g c H' → Lst w g c H' p n 30000 9 → n ≤ 100 → Q (.ref p) H'
set_option maxHeartbeats 0 in
theorem ok_spoilt : FnOk P wd K mg base CX0 3 T.a_spoilt T.d_spoilt ["_law_deck_here", "_law_rule_here"] spSpoilt := by
  have G_draw : FnOk P wd K mg base CX0 1 T.a_draw T.d_draw ["_law_deck_here", "_law_many"] spDraw := ok_draw T
  have G_pick : FnOk P wd K mg base CX0 2 T.a_pick T.d_pick ["_law_deck_here", "_law_items"] spPick := ok_pick T
  refine T.F_spoilt.ok sc_spoilt (fun vs H Q E h => ?_) (fun cdv A outer s H vs Q E hr h => ?_)
  · obtain ⟨w, g, c, r, af, ab, m, k, fs, bs, rfl, _⟩ := h
    rfl
  · obtain ⟨w, g, c, r, af, ab, m, k, fs, bs, rfl, W, R, q⟩ := h
    refine ⟨_, (pss_cons (ps_asg (pv 1) (pg_tup rfl (pgs_cons (pg_name (i := 2) sc_spoilt.nd rfl (Or.inl rfl)) (pgs_cons (pg_name (i := 3) sc_spoilt.nd rfl (Or.inl rfl)) (pgs_cons (pg_name (i := 4) sc_spoilt.nd rfl (Or.inl rfl)) pgs_nil)))))
      (pss_cons (ps_set (i := 5) sc_spoilt.nd rfl (Or.inl rfl) (pe_call G_draw (hr.mono (by decide)) rfl T.g_draw T.F_draw.kp (b_draw T) .nil pass0 (pa_cons (pv 0) (pa_cons (pe_callB call_len_seq rfl T.n_len PySem.boot_len (pa_cons (pv 3) pa_nil)) pa_nil))))
      (pss_cons (ps_set (i := 6) sc_spoilt.nd rfl (Or.inl rfl) (pe_call G_pick hr rfl T.g_pick T.F_pick.kp (b_pick T) .nil pass0 (pa_cons (pv 0) (pa_cons (pe_lst (pa_cons (pv 2) (pa_cons (pe_op op_add (pv 2) pe_int) (pa_cons (pe_un un_neg pe_int) (pa_cons pe_bl (pa_cons pe_bl (pa_cons pe_non (pa_cons pe_str (pa_cons (pe_tup (pa_cons pe_int pa_nil)) (pa_cons (pe_op op_pow pe_int pe_int) (pa_cons (pe_op op_sub pe_int (pv 2)) pa_nil))))))))))) pa_nil))))
      (pss_cons (ps_set (i := 7) sc_spoilt.nd rfl (Or.inl rfl) (pe_call G_pick hr rfl T.g_pick T.F_pick.kp (b_pick T) .nil pass0 (pa_cons (pv 0) (pa_cons (pe_lst (pa_cons pe_int (pa_cons pe_int (pa_cons (pe_un un_neg pe_int) (pa_cons pe_int (pa_cons pe_bl (pa_cons pe_non (pa_cons (pe_callTy call_str_int rfl T.n_str (by decide +kernel) (pa_cons (pv 2) pa_nil)) (pa_cons (pe_tup (pa_cons (pv 2) pa_nil)) (pa_cons (pe_op op_pow pe_int pe_int) (pa_cons (pe_op op_sub pe_int (pv 2)) (pa_cons (pe_op op_add (pv 2) pe_int) pa_nil)))))))))))) pa_nil))))
      (pss_cons (ps_set (i := 8) sc_spoilt.nd rfl (Or.inl rfl) (pe_op op_catA (pe_op op_catA (pe_slice sl_tupA (pv 3) po_none (po_some (pv 5))) (pe_tup (pa_cons (pv 6) pa_nil))) (pe_slice sl_tupA (pv 3) (po_some (pe_op op_add (pv 5) pe_int)) po_none)))
      (pss_cons (ps_set (i := 9) sc_spoilt.nd rfl (Or.inl rfl) (pe_op op_catA (pe_op op_catA (pe_slice sl_tupA (pv 4) po_none (po_some (pv 5))) (pe_tup (pa_cons (pv 6) pa_nil))) (pe_slice sl_tupA (pv 4) (po_some (pe_op op_add (pv 5) pe_int)) po_none)))
      (pss_cons (ps_set (i := 10) sc_spoilt.nd rfl (Or.inl rfl) (pe_lst (pa_cons (pe_callTy call_list_of rfl T.n_list (by decide +kernel) (pa_cons (pv 1) pa_nil)) (pa_cons (pe_slice sl_tupA (pv 1) po_none (po_some pe_int)) (pa_cons (pe_op op_catA (pv 1) (pe_tup (pa_cons (pv 4) pa_nil))) (pa_cons (pe_revT (pv 1)) (pa_cons (pe_tup (pa_cons (pv 7) (pa_cons (pv 3) (pa_cons (pv 4) pa_nil)))) (pa_cons (pe_tup (pa_cons (pv 7) (pa_cons (pv 8) (pa_cons (pv 9) pa_nil)))) pa_nil))))))))
      (pss_cons (ps_set (i := 10) sc_spoilt.nd rfl (Or.inl rfl) (pe_op op_cat (pv 10) (pe_lst (pa_cons (pe_tup (pa_cons (pv 2) (pa_cons (pv 8) (pa_cons (pv 4) pa_nil)))) (pa_cons (pe_tup (pa_cons (pv 2) (pa_cons (pv 3) (pa_cons (pv 9) pa_nil)))) (pa_cons (pe_tup (pa_cons (pv 2) (pa_cons (pv 8) (pa_cons (pv 9) pa_nil)))) (pa_cons (pe_tup (pa_cons (pv 2) (pa_cons (pe_tup pa_nil) (pa_cons (pe_tup pa_nil) pa_nil)))) pa_nil)))))))
      (pss_cons (ps_set (i := 10) sc_spoilt.nd rfl (Or.inl rfl) (pe_op op_cat (pv 10) (pe_lst (pa_cons (pe_tup (pa_cons (pv 2) (pa_cons (pe_callTy call_list_of rfl T.n_list (by decide +kernel) (pa_cons (pv 3) pa_nil)) (pa_cons (pv 4) pa_nil)))) (pa_cons (pe_tup (pa_cons (pv 2) (pa_cons (pv 3) (pa_cons (pe_callTy call_list_of rfl T.n_list (by decide +kernel) (pa_cons (pv 4) pa_nil)) pa_nil)))) (pa_cons (pe_tup (pa_cons (pv 2) (pa_cons (pe_tup pa_nil) (pa_cons (pv 4) pa_nil)))) pa_nil))))))
      (pss_cons (ps_set (i := 10) sc_spoilt.nd rfl (Or.inl rfl) (pe_op op_cat (pv 10) (pe_lst (pa_cons (pe_tup (pa_cons (pv 2) (pa_cons (pv 3) (pa_cons (pe_slice sl_tupA (pv 4) (po_some pe_int) po_none) pa_nil)))) (pa_cons (pe_tup (pa_cons (pv 2) (pa_cons (pv 3) (pa_cons (pe_op op_catA (pv 4) (pe_tup (pa_cons pe_int pa_nil))) pa_nil)))) (pa_cons (pe_tup (pa_cons (pv 2) (pa_cons (pe_op op_catA (pv 3) (pe_tup (pa_cons pe_int pa_nil))) (pa_cons (pv 4) pa_nil)))) pa_nil))))))
      (pss_cons (ps_set (i := 10) sc_spoilt.nd rfl (Or.inl rfl) (pe_op op_cat (pv 10) (pe_lst (pa_cons (pe_tup (pa_cons (pv 2) (pa_cons (pe_op op_catA (pv 3) (pe_tup (pa_cons pe_int pa_nil))) (pa_cons (pe_op op_catA (pv 4) (pe_tup (pa_cons pe_int pa_nil))) pa_nil)))) (pa_cons (pe_tup (pa_cons (pv 2) (pa_cons (pe_op op_repA (pv 3) pe_int) (pa_cons (pe_op op_repA (pv 4) pe_int) pa_nil)))) (pa_cons (pe_tup (pa_cons (pv 2) (pa_cons (pv 3) (pa_cons (pe_tup pa_nil) pa_nil)))) pa_nil))))))
      (pss_cons (ps_set (i := 10) sc_spoilt.nd rfl (Or.inl rfl) (pe_op op_cat (pv 10) (pe_lst (pa_cons (pe_tup (pa_cons pe_int (pa_cons (pe_op op_repA (pe_tup (pa_cons pe_int pa_nil)) pe_int) (pa_cons (pe_op op_repA (pe_tup (pa_cons pe_int pa_nil)) pe_int) pa_nil)))) (pa_cons (pe_tup (pa_cons pe_int (pa_cons (pe_op op_repA (pe_tup (pa_cons pe_int pa_nil)) pe_int) (pa_cons (pe_op op_repA (pe_tup (pa_cons pe_int pa_nil)) pe_int) pa_nil)))) (pa_cons (pe_tup (pa_cons pe_int (pa_cons (pe_op op_repA (pe_tup (pa_cons pe_int pa_nil)) pe_int) (pa_cons (pe_op op_repA (pe_tup (pa_cons pe_int pa_nil)) pe_int) pa_nil)))) (pa_cons (pe_tup (pa_cons (pv 2) (pa_cons (pv 4) (pa_cons (pv 3) pa_nil)))) pa_nil)))))))
      (pss_one (ps_ret (pe_op op_cat (pv 10) (pe_lst (pa_cons (pe_tup (pa_cons (pe_op op_sub (pv 2) pe_int) (pa_cons (pv 3) (pa_cons (pv 4) pa_nil)))) (pa_cons (pe_tup (pa_cons (pv 2) (pa_cons pe_non (pa_cons (pv 4) pa_nil)))) (pa_cons (pe_tup (pa_cons (pv 2) (pa_cons (pv 3) (pa_cons pe_non pa_nil)))) pa_nil))))))))))))))))))), ?_⟩
    have m2 := R.m2
    have m9 := R.m9
    have k1 := R.k1
    have k4 := R.k4
    have hr0 := R.at_
    have hf0 := R.fat
    have lf : (nV fs).length = k := by rw [nV_len, R.fk.1]
    have lb : (nV bs).length = k := by rw [nV_len, R.bk.1]
    walk_at "go"
    refine ⟨w, g, c, _, rfl, W, by omega, by omega, fun at_ H1 s1 W1 at0 at1 => ?_⟩
    have Y := Ly.nil W1
    walk_at "go"
    intro p1 np1
    generalize hU1 : upd _ p1 _ = Gh1
    replace Y := Y.newT np1 hU1 (.cons (.int 0) .nil)
    clear hU1 np1
    walk_at "go"
    intro q1 nq1
    generalize hUq : upd _ q1 _ = J1
    obtain ⟨Y, L1⟩ := newLst (W0 := 200) (D0 := 4) Y nq1 hUq (.cons (.int _) (.cons (.int _) (.cons (.int _) (.cons (.bl _) (.cons (.bl _) (.cons .non (.cons (.str _) (.cons Y.th.hd (.cons (.int _) (.cons (.int _) .nil)))))))))) (by
      refine List.forall_mem_cons.mpr ⟨Bd.mono (bI (by first | decide | omega)) (Nat.le_refl _) (by decide) (by decide), ?_⟩
      refine List.forall_mem_cons.mpr ⟨Bd.mono (bI (by first | decide | omega)) (Nat.le_refl _) (by decide) (by decide), ?_⟩
      refine List.forall_mem_cons.mpr ⟨Bd.mono (bI (by first | decide | omega)) (Nat.le_refl _) (by decide) (by decide), ?_⟩
      refine List.forall_mem_cons.mpr ⟨Bd.mono (bd_bl (B := 10 ^ 30) _) (Nat.le_refl _) (by decide) (by decide), ?_⟩
      refine List.forall_mem_cons.mpr ⟨Bd.mono (bd_bl (B := 10 ^ 30) _) (Nat.le_refl _) (by decide) (by decide), ?_⟩
      refine List.forall_mem_cons.mpr ⟨Bd.mono (bd_non (B := 10 ^ 30)) (Nat.le_refl _) (by decide) (by decide), ?_⟩
      refine List.forall_mem_cons.mpr ⟨Bd.mono (bd_str (B := 10 ^ 30) (W := 100) _ (by decide +kernel)) (Nat.le_refl _) (by decide) (by decide), ?_⟩
      refine List.forall_mem_cons.mpr ⟨⟨by simp [Ok, OkAll], by decide, by decide⟩, ?_⟩
      refine List.forall_mem_cons.mpr ⟨Bd.mono (bI (by first | decide | omega)) (Nat.le_refl _) (by decide) (by decide), ?_⟩
      refine List.forall_mem_cons.mpr ⟨Bd.mono (bI (by first | decide | omega)) (Nat.le_refl _) (by decide) (by decide), ?_⟩
      exact fun d h => (by cases h))
    clear hUq nq1
    walk_at "go"
    refine pickL (E := E0) Y.dk L1 (by simp) (by simp) fun xw dw H2 s2 W2 tw bw => ?_
    replace Y := (Y.goes s2 W2).more tw
    clear s2 W2 L1
    walk_at "go"
    refine ⟨log_of (B := 10) (by omega) (by decide), ?_⟩
    walk_at "go"
    intro p2 np2
    generalize hU2 : upd _ p2 _ = Gh2
    replace Y := Y.newT np2 hU2 (.cons (.int _) .nil)
    clear hU2 np2
    walk_at "go"
    intro q2 nq2
    generalize hUq : upd _ q2 _ = J2
    have tw2 : Th w g Gh2 xw dw := Y.th.tl.hd
    obtain ⟨Y, L2⟩ := newLst (W0 := 200) (D0 := 4) Y nq2 hUq (.cons (.int _) (.cons (.int _) (.cons (.int _) (.cons (.int _) (.cons (.bl _) (.cons .non (.cons (.str _) (.cons Y.th.hd (.cons (.int _) (.cons (.int _) (.cons (.int _) .nil))))))))))) (by
      refine List.forall_mem_cons.mpr ⟨Bd.mono (bI (by first | decide | omega)) (Nat.le_refl _) (by decide) (by decide), ?_⟩
      refine List.forall_mem_cons.mpr ⟨Bd.mono (bI (by first | decide | omega)) (Nat.le_refl _) (by decide) (by decide), ?_⟩
      refine List.forall_mem_cons.mpr ⟨Bd.mono (bI (by first | decide | omega)) (Nat.le_refl _) (by decide) (by decide), ?_⟩
      refine List.forall_mem_cons.mpr ⟨Bd.mono (bI (by first | decide | omega)) (Nat.le_refl _) (by decide) (by decide), ?_⟩
      refine List.forall_mem_cons.mpr ⟨Bd.mono (bd_bl (B := 10 ^ 30) _) (Nat.le_refl _) (by decide) (by decide), ?_⟩
      refine List.forall_mem_cons.mpr ⟨Bd.mono (bd_non (B := 10 ^ 30)) (Nat.le_refl _) (by decide) (by decide), ?_⟩
      refine List.forall_mem_cons.mpr ⟨Bd.mono (bd_str (B := 10 ^ 30) (W := 100) _ (by have := int_text_length_le10 (a := (m : Int)) (k := 38) (by decide) (by omega); rw [PySem.ofString_length]; omega)) (Nat.le_refl _) (by decide) (by decide), ?_⟩
      refine List.forall_mem_cons.mpr ⟨Bd.mono (BdL.tup (BdL.one (bI (i := (m : Int)) (by omega)))) (Nat.le_refl _) (by decide) (by decide), ?_⟩
      refine List.forall_mem_cons.mpr ⟨Bd.mono (bI (by first | decide | omega)) (Nat.le_refl _) (by decide) (by decide), ?_⟩
      refine List.forall_mem_cons.mpr ⟨Bd.mono (bI (by first | decide | omega)) (Nat.le_refl _) (by decide) (by decide), ?_⟩
      refine List.forall_mem_cons.mpr ⟨Bd.mono (bI (by first | decide | omega)) (Nat.le_refl _) (by decide) (by decide), ?_⟩
      exact fun d h => (by cases h))
    clear hUq nq2
    walk_at "go"
    refine pickL (E := E0) Y.dk L2 (by simp) (by simp) fun xo do_ H3 s3 W3 to bo => ?_
    replace Y := (Y.goes s3 W3).more to
    clear L2 tw2
    have gB1 : Go w g H H3 := s1.trans Y.go
    have WB1 := Y.dk
    have RB1 := R.go W gB1
    have F1 : Th w g H3 (.ref af) (.tuple (FD fs)) := .tup RB1.fat (th_nV fs)
    have B1 : Th w g H3 (.ref ab) (.tuple (FD bs)) := .tup RB1.bat (th_nV bs)
    have O1 : Th w g H3 xo do_ := Y.th.hd
    have W1_ : Th w g H3 xw dw := Y.th.tl.tl.hd
    replace Y : Ly "mixed" w g c H3 H3 [] [] := .nil Y.dk
    clear s1 s3 W3 hf0 hr0 R W W1 to tw
    have lF : (FD fs).length = k := by rw [List.length_map, RB1.fk.1]
    have lB : (FD bs).length = k := by rw [List.length_map, RB1.bk.1]
    have c1 : ∀ lo hi, (G1.cutD (FD fs) lo hi).length ≤ k := fun lo hi => Nat.le_trans (cutD_len _ _ _) (Nat.le_of_eq lF)
    have c2 : ∀ lo hi, (G1.cutD (FD bs) lo hi).length ≤ k := fun lo hi => Nat.le_trans (cutD_len _ _ _) (Nat.le_of_eq lB)
    have tF : Th w g _ (.ref af) (.tuple (FD fs)) := F1.go2 WB1.tups Y.go
    have h_F := (RB1.go WB1 Y.go).fat
    walk_at "go"
    refine slT tF fun p_1 X1 s_1 t_1 => ?_
    replace Y := (Y.same s_1).more t_1
    walk_at "go"
    have tW : Th w g _ xw dw := W1_.go2 WB1.tups Y.go
    intro p3 np3
    generalize hU3 : upd _ p3 _ = Gh3
    replace Y := Y.newT np3 hU3 (.cons tW .nil)
    clear hU3 np3
    refine catT Y.th.tl.hd Y.th.hd (by have a1 := c1 none (some at_); have a2 := c1 (some (at_ + 1)) none; have a3 := c2 none (some at_); have a4 := c2 (some (at_ + 1)) none; simp only [List.length_append, List.length_cons, List.length_nil]; omega) fun p_2 X2 s_2 t_2 => ?_
    replace Y := (Y.same s_2).more t_2
    have tF : Th w g _ (.ref af) (.tuple (FD fs)) := F1.go2 WB1.tups Y.go
    walk_at "go"
    refine no_part ?_
    refine slT tF fun p_3 X3 s_3 t_3 => ?_
    replace Y := Y.same s_3
    refine catT Y.th.hd t_3 (by have a1 := c1 none (some at_); have a2 := c1 (some (at_ + 1)) none; have a3 := c2 none (some at_); have a4 := c2 (some (at_ + 1)) none; simp only [List.length_append, List.length_cons, List.length_nil]; omega) fun pBad X4 s_4 tBad => ?_
    replace Y := (Y.same s_4).more tBad
    have tB : Th w g _ (.ref ab) (.tuple (FD bs)) := B1.go2 WB1.tups Y.go
    have h_B := (RB1.go WB1 Y.go).bat
    walk_at "go"
    refine slT tB fun p_5 X5 s_5 t_5 => ?_
    replace Y := (Y.same s_5).more t_5
    walk_at "go"
    have tW : Th w g _ xw dw := W1_.go2 WB1.tups Y.go
    intro p4 np4
    generalize hU4 : upd _ p4 _ = Gh4
    replace Y := Y.newT np4 hU4 (.cons tW .nil)
    clear hU4 np4
    refine catT Y.th.tl.hd Y.th.hd (by have a1 := c1 none (some at_); have a2 := c1 (some (at_ + 1)) none; have a3 := c2 none (some at_); have a4 := c2 (some (at_ + 1)) none; simp only [List.length_append, List.length_cons, List.length_nil]; omega) fun p_6 X6 s_6 t_6 => ?_
    replace Y := (Y.same s_6).more t_6
    have tB : Th w g _ (.ref ab) (.tuple (FD bs)) := B1.go2 WB1.tups Y.go
    walk_at "go"
    refine no_part ?_
    refine slT tB fun p_7 X7 s_7 t_7 => ?_
    replace Y := Y.same s_7
    refine catT Y.th.hd t_7 (by have a1 := c1 none (some at_); have a2 := c1 (some (at_ + 1)) none; have a3 := c2 none (some at_); have a4 := c2 (some (at_ + 1)) none; simp only [List.length_append, List.length_cons, List.length_nil]; omega) fun pWorse X8 s_8 tWorse => ?_
    replace Y := (Y.same s_8).more tWorse
    have gB2 := gB1.trans Y.go
    have WB2 := Y.dk
    have RB2 := RB1.go WB1 Y.go
    have F2 := F1.go2 WB1.tups Y.go
    have B2 := B1.go2 WB1.tups Y.go
    have O2 := O1.go2 WB1.tups Y.go
    have Bad2 : Th w g _ (.ref pBad) (.tuple ((_root_.G1.cutD (FD fs) none (some at_) ++ [dw]) ++ _root_.G1.cutD (FD fs) (some (at_ + 1)) none)) := Y.th.tl.tl.tl.tl.hd
    have Worse2 : Th w g _ (.ref pWorse) (.tuple ((_root_.G1.cutD (FD bs) none (some at_) ++ [dw]) ++ _root_.G1.cutD (FD bs) (some (at_ + 1)) none)) := Y.th.hd
    replace Y : Ly "mixed" w g c _ _ [] [] := .nil Y.dk
    clear s_1 t_1 s_2 t_2 s_3 t_3 s_4 s_5 t_5 s_6 t_6 s_7 t_7 s_8
    clear gB1 WB1 RB1 F1 B1 O1 W1_ tW tF tB tBad tWorse h_F h_B
    have bdF : BdL (10 ^ 30) 512 0 (FD fs) := (bd_FD fs fun v hv => by have := RB2.fk.2 v hv; omega).mono (Nat.le_refl _) (by rw [RB2.fk.1]; omega) (Nat.le_refl _)
    have bdB : BdL (10 ^ 30) 512 0 (FD bs) := (bd_FD bs fun v hv => by have := RB2.bk.2 v hv; omega).mono (Nat.le_refl _) (by rw [RB2.bk.1]; omega) (Nat.le_refl _)
    have bF : Bd (10 ^ 30) 3000 6 (.tuple (FD fs)) := bdF.tup.mono (Nat.le_refl _) (by decide) (by decide)
    have bB : Bd (10 ^ 30) 3000 6 (.tuple (FD bs)) := bdB.tup.mono (Nat.le_refl _) (by decide) (by decide)
    have bO : Bd (10 ^ 30) 3000 6 do_ := bo.mono (Nat.le_refl _) (by decide) (by decide)
    have bW4 : BdL (10 ^ 30) 201 4 [dw] := BdL.one bw
    have bBad : Bd (10 ^ 30) 3000 6 (.tuple ((_root_.G1.cutD (FD fs) none (some at_) ++ [dw]) ++ _root_.G1.cutD (FD fs) (some (at_ + 1)) none)) := ((((bdF.mono (Nat.le_refl _) (Nat.le_refl _) (by decide)).cut _ _).app bW4).app ((bdF.mono (Nat.le_refl _) (Nat.le_refl _) (by decide)).cut _ _)).tup.mono (Nat.le_refl _) (by decide) (by decide)
    have bWorse : Bd (10 ^ 30) 3000 6 (.tuple ((_root_.G1.cutD (FD bs) none (some at_) ++ [dw]) ++ _root_.G1.cutD (FD bs) (some (at_ + 1)) none)) := ((((bdB.mono (Nat.le_refl _) (Nat.le_refl _) (by decide)).cut _ _).app bW4).app ((bdB.mono (Nat.le_refl _) (Nat.le_refl _) (by decide)).cut _ _)).tup.mono (Nat.le_refl _) (by decide) (by decide)
    have bI6 : ∀ i : Int, i.natAbs ≤ 100 → Bd (10 ^ 30) 3000 6 (.int i) := fun i h => (bI (by omega)).mono (Nat.le_refl _) (by decide) (by decide)
    have bR : Bd (10 ^ 30) 30000 9 (.tuple [.int m, .tuple (FD fs), .tuple (FD bs)]) := (tup3 (bI6 _ (by omega)) bF bB).mono (Nat.le_refl _) (by decide) (by decide)
    have hR := (RB2.go WB2 Y.go).at_
    walk_at "go"
    have tF : Th w g _ (.ref af) (.tuple (FD fs)) := F2.go2 WB2.tups Y.go
    have tB : Th w g _ (.ref ab) (.tuple (FD bs)) := B2.go2 WB2.tups Y.go
    intro p5 np5
    generalize hU5 : upd _ p5 _ = Gh5
    replace Y := Y.newL np5 hU5 (.cons (.int _) (.cons tF (.cons tB .nil)))
    clear hU5 np5
    walk_at "go"
    have tR : Th w g _ (.ref r) (.tuple [.int m, .tuple (FD fs), .tuple (FD bs)]) := .tup (RB2.go WB2 Y.go).at_ (.cons (.int _) (.cons (F2.go2 WB2.tups Y.go) (.cons (B2.go2 WB2.tups Y.go) .nil)))
    refine slT tR fun p_9 X9 s_9 t_9 => ?_
    replace Y := (Y.same s_9).more t_9
    walk_at "go"
    have tB : Th w g _ (.ref ab) (.tuple (FD bs)) := B2.go2 WB2.tups Y.go
    intro p6 np6
    generalize hU6 : upd _ p6 _ = Gh6
    replace Y := Y.newT np6 hU6 (.cons tB .nil)
    clear hU6 np6
    have tR : Th w g _ (.ref r) (.tuple [.int m, .tuple (FD fs), .tuple (FD bs)]) := .tup (RB2.go WB2 Y.go).at_ (.cons (.int _) (.cons (F2.go2 WB2.tups Y.go) (.cons (B2.go2 WB2.tups Y.go) .nil)))
    refine catT tR Y.th.hd (by simp) fun p_10 X10 s_10 t_10 => ?_
    replace Y := (Y.same s_10).more t_10
    have hR := (RB2.go WB2 Y.go).at_
    walk_at "go"
    have tF : Th w g _ (.ref af) (.tuple (FD fs)) := F2.go2 WB2.tups Y.go
    have tB : Th w g _ (.ref ab) (.tuple (FD bs)) := B2.go2 WB2.tups Y.go
    intro p7 np7
    generalize hU7 : upd _ p7 _ = Gh7
    replace Y := Y.newT np7 hU7 (ThAll.rev (.cons (.int _) (.cons tF (.cons tB .nil))))
    clear hU7 np7
    walk_at "go"
    have tO : Th w g _ xo do_ := O2.go2 WB2.tups Y.go
    have tF : Th w g _ (.ref af) (.tuple (FD fs)) := F2.go2 WB2.tups Y.go
    have tB : Th w g _ (.ref ab) (.tuple (FD bs)) := B2.go2 WB2.tups Y.go
    intro p8 np8
    generalize hU8 : upd _ p8 _ = Gh8
    replace Y := Y.newT np8 hU8 (.cons tO (.cons tF (.cons tB .nil)))
    clear hU8 np8
    walk_at "go"
    have tO : Th w g _ xo do_ := O2.go2 WB2.tups Y.go
    have tBad : Th w g _ (.ref pBad) (.tuple ((_root_.G1.cutD (FD fs) none (some at_) ++ [dw]) ++ _root_.G1.cutD (FD fs) (some (at_ + 1)) none)) := Bad2.go2 WB2.tups Y.go
    have tWorse : Th w g _ (.ref pWorse) (.tuple ((_root_.G1.cutD (FD bs) none (some at_) ++ [dw]) ++ _root_.G1.cutD (FD bs) (some (at_ + 1)) none)) := Worse2.go2 WB2.tups Y.go
    intro p9 np9
    generalize hU9 : upd _ p9 _ = Gh9
    replace Y := Y.newT np9 hU9 (.cons tO (.cons tBad (.cons tWorse .nil)))
    clear hU9 np9
    walk_at "go"
    intro ql1 nql
    generalize hUq : upd _ ql1 _ = JL1
    obtain ⟨Y, Lq1⟩ := newLst (W0 := 30000) (D0 := 9) Y nql hUq (.cons Y.th.tl.tl.tl.tl.tl.tl.hd (.cons Y.th.tl.tl.tl.tl.tl.hd (.cons Y.th.tl.tl.tl.hd (.cons Y.th.tl.tl.hd (.cons Y.th.tl.hd (.cons Y.th.hd .nil)))))) (by
      refine List.forall_mem_cons.mpr ⟨Bd.mono ((BdL.one (bI6 (m : Int) (by omega))).app ((BdL.one bF).app (BdL.one bB))).lst (Nat.le_refl _) (by decide) (by decide), ?_⟩
      refine List.forall_mem_cons.mpr ⟨Bd.mono ((((BdL.one (bI6 (m : Int) (by omega))).app ((BdL.one bF).app (BdL.one bB))).cut _ _).tup) (Nat.le_refl _) (by decide) (by decide), ?_⟩
      refine List.forall_mem_cons.mpr ⟨Bd.mono ((((BdL.one (bI6 (m : Int) (by omega))).app ((BdL.one bF).app (BdL.one bB))).app (BdL.one bB)).tup) (Nat.le_refl _) (by decide) (by decide), ?_⟩
      refine List.forall_mem_cons.mpr ⟨Bd.mono (((BdL.one (bI6 (m : Int) (by omega))).app ((BdL.one bF).app (BdL.one bB))).rev.tup) (Nat.le_refl _) (by decide) (by decide), ?_⟩
      refine List.forall_mem_cons.mpr ⟨Bd.mono (tup3 bO bF bB) (Nat.le_refl _) (by decide) (by decide), ?_⟩
      refine List.forall_mem_cons.mpr ⟨Bd.mono (tup3 bO bBad bWorse) (Nat.le_refl _) (by decide) (by decide), ?_⟩
      exact fun d h => (by cases h))
    clear hUq nql
    have gB3 := gB2.trans Y.go
    have WB3 := Y.dk
    have RB3 := RB2.go WB2 Y.go
    have F3 := F2.go2 WB2.tups Y.go
    have B3 := B2.go2 WB2.tups Y.go
    have O3 := O2.go2 WB2.tups Y.go
    have Bad3 := Bad2.go2 WB2.tups Y.go
    have Worse3 := Worse2.go2 WB2.tups Y.go
    replace Y : Ly "mixed" w g c _ _ [] [] := .nil Y.dk
    clear gB2 WB2 RB2 F2 B2 O2 Bad2 Worse2
    walk_at "go"
    have tBad : Th w g _ (.ref pBad) (.tuple ((_root_.G1.cutD (FD fs) none (some at_) ++ [dw]) ++ _root_.G1.cutD (FD fs) (some (at_ + 1)) none)) := Bad3.go2 WB3.tups Y.go
    have tB : Th w g _ (.ref ab) (.tuple (FD bs)) := B3.go2 WB3.tups Y.go
    intro p10 np10
    generalize hU10 : upd _ p10 _ = Gh10
    replace Y := Y.newT np10 hU10 (.cons (.int _) (.cons tBad (.cons tB .nil)))
    clear hU10 np10
    walk_at "go"
    have tF : Th w g _ (.ref af) (.tuple (FD fs)) := F3.go2 WB3.tups Y.go
    have tWorse : Th w g _ (.ref pWorse) (.tuple ((_root_.G1.cutD (FD bs) none (some at_) ++ [dw]) ++ _root_.G1.cutD (FD bs) (some (at_ + 1)) none)) := Worse3.go2 WB3.tups Y.go
    intro p11 np11
    generalize hU11 : upd _ p11 _ = Gh11
    replace Y := Y.newT np11 hU11 (.cons (.int _) (.cons tF (.cons tWorse .nil)))
    clear hU11 np11
    walk_at "go"
    have tBad : Th w g _ (.ref pBad) (.tuple ((_root_.G1.cutD (FD fs) none (some at_) ++ [dw]) ++ _root_.G1.cutD (FD fs) (some (at_ + 1)) none)) := Bad3.go2 WB3.tups Y.go
    have tWorse : Th w g _ (.ref pWorse) (.tuple ((_root_.G1.cutD (FD bs) none (some at_) ++ [dw]) ++ _root_.G1.cutD (FD bs) (some (at_ + 1)) none)) := Worse3.go2 WB3.tups Y.go
    intro p12 np12
    generalize hU12 : upd _ p12 _ = Gh12
    replace Y := Y.newT np12 hU12 (.cons (.int _) (.cons tBad (.cons tWorse .nil)))
    clear hU12 np12
    walk_at "go"
    intro p13 np13
    generalize hU13 : upd _ p13 _ = Gh13
    replace Y := Y.newT np13 hU13 .nil
    clear hU13 np13
    walk_at "go"
    intro p14 np14
    generalize hU14 : upd _ p14 _ = Gh14
    replace Y := Y.newT np14 hU14 .nil
    clear hU14 np14
    walk_at "go"
    intro p15 np15
    generalize hU15 : upd _ p15 _ = Gh15
    replace Y := Y.newT np15 hU15 (.cons (.int _) (.cons Y.th.tl.hd (.cons Y.th.hd .nil)))
    clear hU15 np15
    walk_at "go"
    intro ql2 nql
    generalize hUq : upd _ ql2 _ = JL2
    obtain ⟨Y, Lq2⟩ := newLst (W0 := 30000) (D0 := 9) Y nql hUq (.cons Y.th.tl.tl.tl.tl.tl.hd (.cons Y.th.tl.tl.tl.tl.hd (.cons Y.th.tl.tl.tl.hd (.cons Y.th.hd .nil)))) (by
      refine List.forall_mem_cons.mpr ⟨Bd.mono (tup3 (bI6 _ (by first | decide | omega)) bBad bB) (Nat.le_refl _) (by decide) (by decide), ?_⟩
      refine List.forall_mem_cons.mpr ⟨Bd.mono (tup3 (bI6 _ (by first | decide | omega)) bF bWorse) (Nat.le_refl _) (by decide) (by decide), ?_⟩
      refine List.forall_mem_cons.mpr ⟨Bd.mono (tup3 (bI6 _ (by first | decide | omega)) bBad bWorse) (Nat.le_refl _) (by decide) (by decide), ?_⟩
      refine List.forall_mem_cons.mpr ⟨Bd.mono (tup3 (bI6 _ (by first | decide | omega)) (⟨by simp [Ok, OkAll], by decide, by decide⟩ : Bd (10 ^ 30) 3000 6 (.tuple [])) (⟨by simp [Ok, OkAll], by decide, by decide⟩ : Bd (10 ^ 30) 3000 6 (.tuple []))) (Nat.le_refl _) (by decide) (by decide), ?_⟩
      exact fun d h => (by cases h))
    clear hUq nql
    refine catLst Y.dk (Lq1.go WB3 Y.go) Lq2 (by simp) fun pc2 HC2 sc2 WC2 LC2 => ?_
    replace Y := Y.goes sc2 WC2
    have gB4 := gB3.trans Y.go
    have WB4 := Y.dk
    have RB4 := RB3.go WB3 Y.go
    have F4 := F3.go2 WB3.tups Y.go
    have B4 := B3.go2 WB3.tups Y.go
    have O4 := O3.go2 WB3.tups Y.go
    have Bad4 := Bad3.go2 WB3.tups Y.go
    have Worse4 := Worse3.go2 WB3.tups Y.go
    replace Y : Ly "mixed" w g c _ _ [] [] := .nil Y.dk
    clear gB3 WB3 RB3 F3 B3 O3 Bad3 Worse3
    clear Lq1 Lq2 sc2 WC2
    have hF := (RB4.go WB4 Y.go).fat
    walk_at "go"
    have tF : Th w g _ (.ref af) (.tuple (FD fs)) := F4.go2 WB4.tups Y.go
    intro p16 np16
    generalize hU16 : upd _ p16 _ = Gh16
    replace Y := Y.newL np16 hU16 (th_nV fs)
    clear hU16 np16
    walk_at "go"
    have tB : Th w g _ (.ref ab) (.tuple (FD bs)) := B4.go2 WB4.tups Y.go
    intro p17 np17
    generalize hU17 : upd _ p17 _ = Gh17
    replace Y := Y.newT np17 hU17 (.cons (.int _) (.cons Y.th.hd (.cons tB .nil)))
    clear hU17 np17
    have hB := (RB4.go WB4 Y.go).bat
    walk_at "go"
    have tB : Th w g _ (.ref ab) (.tuple (FD bs)) := B4.go2 WB4.tups Y.go
    intro p18 np18
    generalize hU18 : upd _ p18 _ = Gh18
    replace Y := Y.newL np18 hU18 (th_nV bs)
    clear hU18 np18
    walk_at "go"
    have tF : Th w g _ (.ref af) (.tuple (FD fs)) := F4.go2 WB4.tups Y.go
    intro p19 np19
    generalize hU19 : upd _ p19 _ = Gh19
    replace Y := Y.newT np19 hU19 (.cons (.int _) (.cons tF (.cons Y.th.hd .nil)))
    clear hU19 np19
    walk_at "go"
    intro p20 np20
    generalize hU20 : upd _ p20 _ = Gh20
    replace Y := Y.newT np20 hU20 .nil
    clear hU20 np20
    walk_at "go"
    have tB : Th w g _ (.ref ab) (.tuple (FD bs)) := B4.go2 WB4.tups Y.go
    intro p21 np21
    generalize hU21 : upd _ p21 _ = Gh21
    replace Y := Y.newT np21 hU21 (.cons (.int _) (.cons Y.th.hd (.cons tB .nil)))
    clear hU21 np21
    walk_at "go"
    intro ql3 nql
    generalize hUq : upd _ ql3 _ = JL3
    obtain ⟨Y, Lq3⟩ := newLst (W0 := 30000) (D0 := 9) Y nql hUq (.cons Y.th.tl.tl.tl.tl.hd (.cons Y.th.tl.tl.hd (.cons Y.th.hd .nil))) (by
      refine List.forall_mem_cons.mpr ⟨Bd.mono (tup3 (bI6 _ (by first | decide | omega)) ((bdF.lst).mono (W' := 3000) (D' := 6) (Nat.le_refl _) (by decide) (by decide)) bB) (Nat.le_refl _) (by decide) (by decide), ?_⟩
      refine List.forall_mem_cons.mpr ⟨Bd.mono (tup3 (bI6 _ (by first | decide | omega)) bF ((bdB.lst).mono (W' := 3000) (D' := 6) (Nat.le_refl _) (by decide) (by decide))) (Nat.le_refl _) (by decide) (by decide), ?_⟩
      refine List.forall_mem_cons.mpr ⟨Bd.mono (tup3 (bI6 _ (by first | decide | omega)) (⟨by simp [Ok, OkAll], by decide, by decide⟩ : Bd (10 ^ 30) 3000 6 (.tuple [])) bB) (Nat.le_refl _) (by decide) (by decide), ?_⟩
      exact fun d h => (by cases h))
    clear hUq nql
    refine catLst Y.dk (LC2.go WB4 Y.go) Lq3 (by simp) fun pc3 HC3 sc3 WC3 LC3 => ?_
    replace Y := Y.goes sc3 WC3
    have gB5 := gB4.trans Y.go
    have WB5 := Y.dk
    have RB5 := RB4.go WB4 Y.go
    have F5 := F4.go2 WB4.tups Y.go
    have B5 := B4.go2 WB4.tups Y.go
    have O5 := O4.go2 WB4.tups Y.go
    have Bad5 := Bad4.go2 WB4.tups Y.go
    have Worse5 := Worse4.go2 WB4.tups Y.go
    replace Y : Ly "mixed" w g c _ _ [] [] := .nil Y.dk
    clear gB4 WB4 RB4 F4 B4 O4 Bad4 Worse4
    clear LC2 Lq3 sc3 WC3
    walk_at "go"
    have tB : Th w g _ (.ref ab) (.tuple (FD bs)) := B5.go2 WB5.tups Y.go
    refine no_part ?_
    refine slT tB fun p_11 X11 s_11 t_11 => ?_
    replace Y := (Y.same s_11).more t_11
    walk_at "go"
    have tF : Th w g _ (.ref af) (.tuple (FD fs)) := F5.go2 WB5.tups Y.go
    intro p22 np22
    generalize hU22 : upd _ p22 _ = Gh22
    replace Y := Y.newT np22 hU22 (.cons (.int _) (.cons tF (.cons Y.th.hd .nil)))
    clear hU22 np22
    walk_at "go"
    intro p23 np23
    generalize hU23 : upd _ p23 _ = Gh23
    replace Y := Y.newT np23 hU23 (.cons (.int 0) .nil)
    clear hU23 np23
    have tB : Th w g _ (.ref ab) (.tuple (FD bs)) := B5.go2 WB5.tups Y.go
    refine catT tB Y.th.hd (by simp only [List.length_cons, List.length_nil]; omega) fun p_12 X12 s_12 t_12 => ?_
    replace Y := (Y.same s_12).more t_12
    walk_at "go"
    have tF : Th w g _ (.ref af) (.tuple (FD fs)) := F5.go2 WB5.tups Y.go
    intro p24 np24
    generalize hU24 : upd _ p24 _ = Gh24
    replace Y := Y.newT np24 hU24 (.cons (.int _) (.cons tF (.cons Y.th.hd .nil)))
    clear hU24 np24
    walk_at "go"
    intro p25 np25
    generalize hU25 : upd _ p25 _ = Gh25
    replace Y := Y.newT np25 hU25 (.cons (.int 0) .nil)
    clear hU25 np25
    have tF : Th w g _ (.ref af) (.tuple (FD fs)) := F5.go2 WB5.tups Y.go
    refine catT tF Y.th.hd (by simp only [List.length_cons, List.length_nil]; omega) fun p_13 X13 s_13 t_13 => ?_
    replace Y := (Y.same s_13).more t_13
    walk_at "go"
    have tB : Th w g _ (.ref ab) (.tuple (FD bs)) := B5.go2 WB5.tups Y.go
    intro p26 np26
    generalize hU26 : upd _ p26 _ = Gh26
    replace Y := Y.newT np26 hU26 (.cons (.int _) (.cons Y.th.hd (.cons tB .nil)))
    clear hU26 np26
    walk_at "go"
    intro ql4 nql
    generalize hUq : upd _ ql4 _ = JL4
    obtain ⟨Y, Lq4⟩ := newLst (W0 := 30000) (D0 := 9) Y nql hUq (.cons Y.th.tl.tl.tl.tl.tl.tl.hd (.cons Y.th.tl.tl.tl.hd (.cons Y.th.hd .nil))) (by
      refine List.forall_mem_cons.mpr ⟨Bd.mono (tup3 (bI6 _ (by first | decide | omega)) bF ((bdB.cut _ _).tup.mono (W' := 3000) (D' := 6) (Nat.le_refl _) (by decide) (by decide))) (Nat.le_refl _) (by decide) (by decide), ?_⟩
      refine List.forall_mem_cons.mpr ⟨Bd.mono (tup3 (bI6 _ (by first | decide | omega)) bF (((bdB.app (BdL.one (bd_int (B := 10 ^ 30) (i := 0) (by decide) (by decide)))).tup).mono (W' := 3000) (D' := 6) (Nat.le_refl _) (by decide) (by decide))) (Nat.le_refl _) (by decide) (by decide), ?_⟩
      refine List.forall_mem_cons.mpr ⟨Bd.mono (tup3 (bI6 _ (by first | decide | omega)) (((bdF.app (BdL.one (bd_int (B := 10 ^ 30) (i := 0) (by decide) (by decide)))).tup).mono (W' := 3000) (D' := 6) (Nat.le_refl _) (by decide) (by decide)) bB) (Nat.le_refl _) (by decide) (by decide), ?_⟩
      exact fun d h => (by cases h))
    clear hUq nql
    refine catLst Y.dk (LC3.go WB5 Y.go) Lq4 (by simp) fun pc4 HC4 sc4 WC4 LC4 => ?_
    replace Y := Y.goes sc4 WC4
    have gB6 := gB5.trans Y.go
    have WB6 := Y.dk
    have RB6 := RB5.go WB5 Y.go
    have F6 := F5.go2 WB5.tups Y.go
    have B6 := B5.go2 WB5.tups Y.go
    have O6 := O5.go2 WB5.tups Y.go
    have Bad6 := Bad5.go2 WB5.tups Y.go
    have Worse6 := Worse5.go2 WB5.tups Y.go
    replace Y : Ly "mixed" w g c _ _ [] [] := .nil Y.dk
    clear gB5 WB5 RB5 F5 B5 O5 Bad5 Worse5
    clear LC3 Lq4 sc4 WC4
    walk_at "go"
    intro p27 np27
    generalize hU27 : upd _ p27 _ = Gh27
    replace Y := Y.newT np27 hU27 (.cons (.int 0) .nil)
    clear hU27 np27
    have tF : Th w g _ (.ref af) (.tuple (FD fs)) := F6.go2 WB6.tups Y.go
    refine catT tF Y.th.hd (by simp only [List.length_cons, List.length_nil]; omega) fun p_14 X14 s_14 t_14 => ?_
    replace Y := (Y.same s_14).more t_14
    walk_at "go"
    intro p28 np28
    generalize hU28 : upd _ p28 _ = Gh28
    replace Y := Y.newT np28 hU28 (.cons (.int 0) .nil)
    clear hU28 np28
    have tB : Th w g _ (.ref ab) (.tuple (FD bs)) := B6.go2 WB6.tups Y.go
    refine catT tB Y.th.hd (by simp only [List.length_cons, List.length_nil]; omega) fun p_15 X15 s_15 t_15 => ?_
    replace Y := (Y.same s_15).more t_15
    walk_at "go"
    intro p29 np29
    generalize hU29 : upd _ p29 _ = Gh29
    replace Y := Y.newT np29 hU29 (.cons (.int _) (.cons Y.th.tl.tl.hd (.cons Y.th.hd .nil)))
    clear hU29 np29
    walk_at "go"
    have tF : Th w g _ (.ref af) (.tuple (FD fs)) := F6.go2 WB6.tups Y.go
    refine c_part ?_
    refine repT (j := 5) tF (by intro e; have z := lF; rw [e] at z; have z2 : 0 = k := z; omega) (by decide) (by decide) (by omega) fun p_16 X16 s_16 t_16 => ?_
    replace Y := (Y.same s_16).more t_16
    walk_at "go"
    have tB : Th w g _ (.ref ab) (.tuple (FD bs)) := B6.go2 WB6.tups Y.go
    refine c_part ?_
    refine repT (j := 5) tB (by intro e; have z := lB; rw [e] at z; have z2 : 0 = k := z; omega) (by decide) (by decide) (by omega) fun p_17 X17 s_17 t_17 => ?_
    replace Y := (Y.same s_17).more t_17
    walk_at "go"
    intro p30 np30
    generalize hU30 : upd _ p30 _ = Gh30
    replace Y := Y.newT np30 hU30 (.cons (.int _) (.cons Y.th.tl.hd (.cons Y.th.hd .nil)))
    clear hU30 np30
    walk_at "go"
    intro p31 np31
    generalize hU31 : upd _ p31 _ = Gh31
    replace Y := Y.newT np31 hU31 .nil
    clear hU31 np31
    walk_at "go"
    have tF : Th w g _ (.ref af) (.tuple (FD fs)) := F6.go2 WB6.tups Y.go
    intro p32 np32
    generalize hU32 : upd _ p32 _ = Gh32
    replace Y := Y.newT np32 hU32 (.cons (.int _) (.cons tF (.cons Y.th.hd .nil)))
    clear hU32 np32
    walk_at "go"
    intro ql5 nql
    generalize hUq : upd _ ql5 _ = JL5
    obtain ⟨Y, Lq5⟩ := newLst (W0 := 30000) (D0 := 9) Y nql hUq (.cons Y.th.tl.tl.tl.tl.tl.hd (.cons Y.th.tl.tl.hd (.cons Y.th.hd .nil))) (by
      refine List.forall_mem_cons.mpr ⟨Bd.mono (tup3 (bI6 _ (by first | decide | omega)) (((bdF.app (BdL.one (bd_int (B := 10 ^ 30) (i := 0) (by decide) (by decide)))).tup).mono (W' := 3000) (D' := 6) (Nat.le_refl _) (by decide) (by decide)) (((bdB.app (BdL.one (bd_int (B := 10 ^ 30) (i := 0) (by decide) (by decide)))).tup).mono (W' := 3000) (D' := 6) (Nat.le_refl _) (by decide) (by decide))) (Nat.le_refl _) (by decide) (by decide), ?_⟩
      refine List.forall_mem_cons.mpr ⟨Bd.mono (tup3 (bI6 _ (by first | decide | omega)) ((bd_rep bdF 5).tup.mono (W' := 3000) (D' := 6) (Nat.le_refl _) (by decide) (by decide)) ((bd_rep bdB 5).tup.mono (W' := 3000) (D' := 6) (Nat.le_refl _) (by decide) (by decide))) (Nat.le_refl _) (by decide) (by decide), ?_⟩
      refine List.forall_mem_cons.mpr ⟨Bd.mono (tup3 (bI6 _ (by first | decide | omega)) bF (⟨by simp [Ok, OkAll], by decide, by decide⟩ : Bd (10 ^ 30) 3000 6 (.tuple []))) (Nat.le_refl _) (by decide) (by decide), ?_⟩
      exact fun d h => (by cases h))
    clear hUq nql
    refine catLst Y.dk (LC4.go WB6 Y.go) Lq5 (by simp) fun pc5 HC5 sc5 WC5 LC5 => ?_
    replace Y := Y.goes sc5 WC5
    have gB7 := gB6.trans Y.go
    have WB7 := Y.dk
    have RB7 := RB6.go WB6 Y.go
    have F7 := F6.go2 WB6.tups Y.go
    have B7 := B6.go2 WB6.tups Y.go
    have O7 := O6.go2 WB6.tups Y.go
    have Bad7 := Bad6.go2 WB6.tups Y.go
    have Worse7 := Worse6.go2 WB6.tups Y.go
    replace Y : Ly "mixed" w g c _ _ [] [] := .nil Y.dk
    clear gB6 WB6 RB6 F6 B6 O6 Bad6 Worse6
    clear LC4 Lq5 sc5 WC5
    walk_at "go"
    intro p33 np33
    generalize hU33 : upd _ p33 _ = Gh33
    replace Y := Y.newT np33 hU33 (.cons (.int 1) .nil)
    clear hU33 np33
    refine c_part ?_
    refine repT (j := 4) Y.th.hd (by simp) (by decide) (by decide) (by decide) fun p_18 X18 s_18 t_18 => ?_
    replace Y := (Y.same s_18).more t_18
    walk_at "go"
    intro p34 np34
    generalize hU34 : upd _ p34 _ = Gh34
    replace Y := Y.newT np34 hU34 (.cons (.int 0) .nil)
    clear hU34 np34
    refine c_part ?_
    refine repT (j := 4) Y.th.hd (by simp) (by decide) (by decide) (by decide) fun p_19 X19 s_19 t_19 => ?_
    replace Y := (Y.same s_19).more t_19
    walk_at "go"
    intro p35 np35
    generalize hU35 : upd _ p35 _ = Gh35
    replace Y := Y.newT np35 hU35 (.cons (.int _) (.cons Y.th.tl.tl.hd (.cons Y.th.hd .nil)))
    clear hU35 np35
    walk_at "go"
    intro p36 np36
    generalize hU36 : upd _ p36 _ = Gh36
    replace Y := Y.newT np36 hU36 (.cons (.int 8) .nil)
    clear hU36 np36
    refine c_part ?_
    refine repT (j := 3) Y.th.hd (by simp) (by decide) (by decide) (by decide) fun p_20 X20 s_20 t_20 => ?_
    replace Y := (Y.same s_20).more t_20
    walk_at "go"
    intro p37 np37
    generalize hU37 : upd _ p37 _ = Gh37
    replace Y := Y.newT np37 hU37 (.cons (.int 8) .nil)
    clear hU37 np37
    refine c_part ?_
    refine repT (j := 3) Y.th.hd (by simp) (by decide) (by decide) (by decide) fun p_21 X21 s_21 t_21 => ?_
    replace Y := (Y.same s_21).more t_21
    walk_at "go"
    intro p38 np38
    generalize hU38 : upd _ p38 _ = Gh38
    replace Y := Y.newT np38 hU38 (.cons (.int _) (.cons Y.th.tl.tl.hd (.cons Y.th.hd .nil)))
    clear hU38 np38
    walk_at "go"
    intro p39 np39
    generalize hU39 : upd _ p39 _ = Gh39
    replace Y := Y.newT np39 hU39 (.cons (.int 7) .nil)
    clear hU39 np39
    refine c_part ?_
    refine repT (j := 4) Y.th.hd (by simp) (by decide) (by decide) (by decide) fun p_22 X22 s_22 t_22 => ?_
    replace Y := (Y.same s_22).more t_22
    walk_at "go"
    intro p40 np40
    generalize hU40 : upd _ p40 _ = Gh40
    replace Y := Y.newT np40 hU40 (.cons (.int 7) .nil)
    clear hU40 np40
    refine c_part ?_
    refine repT (j := 4) Y.th.hd (by simp) (by decide) (by decide) (by decide) fun p_23 X23 s_23 t_23 => ?_
    replace Y := (Y.same s_23).more t_23
    walk_at "go"
    intro p41 np41
    generalize hU41 : upd _ p41 _ = Gh41
    replace Y := Y.newT np41 hU41 (.cons (.int _) (.cons Y.th.tl.tl.hd (.cons Y.th.hd .nil)))
    clear hU41 np41
    walk_at "go"
    have tB : Th w g _ (.ref ab) (.tuple (FD bs)) := B7.go2 WB7.tups Y.go
    have tF : Th w g _ (.ref af) (.tuple (FD fs)) := F7.go2 WB7.tups Y.go
    intro p42 np42
    generalize hU42 : upd _ p42 _ = Gh42
    replace Y := Y.newT np42 hU42 (.cons (.int _) (.cons tB (.cons tF .nil)))
    clear hU42 np42
    walk_at "go"
    intro ql6 nql
    generalize hUq : upd _ ql6 _ = JL6
    obtain ⟨Y, Lq6⟩ := newLst (W0 := 30000) (D0 := 9) Y nql hUq (.cons Y.th.tl.tl.tl.tl.tl.tl.tl.tl.tl.tl.tl.hd (.cons Y.th.tl.tl.tl.tl.tl.tl.hd (.cons Y.th.tl.hd (.cons Y.th.hd .nil)))) (by
      refine List.forall_mem_cons.mpr ⟨Bd.mono (tup3 (bI6 _ (by first | decide | omega)) (⟨by simp [Ok, OkAll, List.replicate], by decide, by decide⟩ : Bd (10 ^ 30) 3000 6 (.tuple (List.replicate (4 : Int).toNat [PyData.int 1]).flatten)) (⟨by simp [Ok, OkAll, List.replicate], by decide, by decide⟩ : Bd (10 ^ 30) 3000 6 (.tuple (List.replicate (4 : Int).toNat [PyData.int 0]).flatten))) (Nat.le_refl _) (by decide) (by decide), ?_⟩
      refine List.forall_mem_cons.mpr ⟨Bd.mono (tup3 (bI6 _ (by first | decide | omega)) (⟨by simp [Ok, OkAll, List.replicate], by decide, by decide⟩ : Bd (10 ^ 30) 3000 6 (.tuple (List.replicate (3 : Int).toNat [PyData.int 8]).flatten)) (⟨by simp [Ok, OkAll, List.replicate], by decide, by decide⟩ : Bd (10 ^ 30) 3000 6 (.tuple (List.replicate (3 : Int).toNat [PyData.int 8]).flatten))) (Nat.le_refl _) (by decide) (by decide), ?_⟩
      refine List.forall_mem_cons.mpr ⟨Bd.mono (tup3 (bI6 _ (by first | decide | omega)) (⟨by simp [Ok, OkAll, List.replicate], by decide, by decide⟩ : Bd (10 ^ 30) 3000 6 (.tuple (List.replicate (4 : Int).toNat [PyData.int 7]).flatten)) (⟨by simp [Ok, OkAll, List.replicate], by decide, by decide⟩ : Bd (10 ^ 30) 3000 6 (.tuple (List.replicate (4 : Int).toNat [PyData.int 7]).flatten))) (Nat.le_refl _) (by decide) (by decide), ?_⟩
      refine List.forall_mem_cons.mpr ⟨Bd.mono (tup3 (bI6 _ (by first | decide | omega)) bB bF) (Nat.le_refl _) (by decide) (by decide), ?_⟩
      exact fun d h => (by cases h))
    clear hUq nql
    refine catLst Y.dk (LC5.go WB7 Y.go) Lq6 (by simp) fun pc6 HC6 sc6 WC6 LC6 => ?_
    replace Y := Y.goes sc6 WC6
    have gB8 := gB7.trans Y.go
    have WB8 := Y.dk
    have RB8 := RB7.go WB7 Y.go
    have F8 := F7.go2 WB7.tups Y.go
    have B8 := B7.go2 WB7.tups Y.go
    have O8 := O7.go2 WB7.tups Y.go
    have Bad8 := Bad7.go2 WB7.tups Y.go
    have Worse8 := Worse7.go2 WB7.tups Y.go
    replace Y : Ly "mixed" w g c _ _ [] [] := .nil Y.dk
    clear gB7 WB7 RB7 F7 B7 O7 Bad7 Worse7
    clear LC5 Lq6 sc6 WC6
    walk_at "go"
    have tF : Th w g _ (.ref af) (.tuple (FD fs)) := F8.go2 WB8.tups Y.go
    have tB : Th w g _ (.ref ab) (.tuple (FD bs)) := B8.go2 WB8.tups Y.go
    intro p43 np43
    generalize hU43 : upd _ p43 _ = Gh43
    replace Y := Y.newT np43 hU43 (.cons (.int _) (.cons tF (.cons tB .nil)))
    clear hU43 np43
    walk_at "go"
    have tB : Th w g _ (.ref ab) (.tuple (FD bs)) := B8.go2 WB8.tups Y.go
    intro p44 np44
    generalize hU44 : upd _ p44 _ = Gh44
    replace Y := Y.newT np44 hU44 (.cons (.int _) (.cons .non (.cons tB .nil)))
    clear hU44 np44
    walk_at "go"
    have tF : Th w g _ (.ref af) (.tuple (FD fs)) := F8.go2 WB8.tups Y.go
    intro p45 np45
    generalize hU45 : upd _ p45 _ = Gh45
    replace Y := Y.newT np45 hU45 (.cons (.int _) (.cons tF (.cons .non .nil)))
    clear hU45 np45
    walk_at "go"
    intro ql7 nql
    generalize hUq : upd _ ql7 _ = JL7
    obtain ⟨Y, Lq7⟩ := newLst (W0 := 30000) (D0 := 9) Y nql hUq (.cons Y.th.tl.tl.hd (.cons Y.th.tl.hd (.cons Y.th.hd .nil))) (by
      refine List.forall_mem_cons.mpr ⟨Bd.mono (tup3 (bI6 _ (by first | decide | omega)) bF bB) (Nat.le_refl _) (by decide) (by decide), ?_⟩
      refine List.forall_mem_cons.mpr ⟨Bd.mono (tup3 (bI6 _ (by first | decide | omega)) (Bd.mono (bd_non (B := 10 ^ 30)) (W' := 3000) (D' := 6) (Nat.le_refl _) (by decide) (by decide)) bB) (Nat.le_refl _) (by decide) (by decide), ?_⟩
      refine List.forall_mem_cons.mpr ⟨Bd.mono (tup3 (bI6 _ (by first | decide | omega)) bF (Bd.mono (bd_non (B := 10 ^ 30)) (W' := 3000) (D' := 6) (Nat.le_refl _) (by decide) (by decide))) (Nat.le_refl _) (by decide) (by decide), ?_⟩
      exact fun d h => (by cases h))
    clear hUq nql
    refine catLst Y.dk (LC6.go WB8 Y.go) Lq7 (by simp) fun pc7 HC7 sc7 WC7 LC7 => ?_
    exact q _ _ HC7 ((gB8.trans Y.go).trans sc7) WC7 LC7 (by simp)
end
set_option pp.deepTerms false
set_option pp.deepTerms.threshold 5
section
variable {P : Program} {wd : World} {K : PySem.W.Frag} {mg : Str → Option Value} {base : Heap} (T : Tp K mg)
theorem below_nV {w g : Addr} {H : Hp} {m : Nat} : ∀ {xs : List V} {ds : List PyData}, ThAll w g H xs ds → ds.all (wholeD 0 ((m : Int) - 1)) = true → ∃ l : List Nat, xs = nV l ∧ l.length = ds.length ∧ ∀ v, v ∈ l → v < m
  | _, _, .nil, _ => ⟨[], rfl, rfl, fun v h => by cases h⟩
  | _, _, .cons t ts, h => by
    rw [List.all_cons, Bool.and_eq_true] at h
    obtain ⟨i, rfl, i0, i1⟩ := whole_int h.1
    cases t
    obtain ⟨l, rfl, hl, hm⟩ := below_nV ts h.2
    refine ⟨i.toNat :: l, ?_, by rw [List.length_cons, List.length_cons, hl], fun v hv => ?_⟩
    · show _ = V.int ((i.toNat : Nat) : Int) :: nV l
      rw [Int.toNat_of_nonneg i0]
    · rcases List.mem_cons.mp hv with rfl | hv
      · omega
      · exact hm v hv
/-- what is told as a rule is one -/
theorem rule_of {w g : Addr} {H : Hp} {v : V} {d : PyData} (t : Th w g H v d) (h : errV d = .non) : ∃ r af ab m fs bs, v = .ref r ∧ RuleAt H r af ab m fs bs := by
  unfold errV at h
  split at h
  · rename_i a b c
    unfold errR at h
    cases r1 : wholeD 2 9 a with
    | false => rw [if_pos r1] at h; cases h
    | true =>
      rw [if_neg (by rw [r1]; decide)] at h
      obtain ⟨m, rfl, m2, m9⟩ := whole_int r1
      replace h : errF m b c = .non := h
      obtain ⟨M, rfl⟩ : ∃ M : Nat, m = (M : Nat) := ⟨m.toNat, by omega⟩
      unfold errF at h
      split at h
      · cases h
      · rename_i k hk
        by_cases n9 : (M : Int) = 9 ∧ k = 4
        · rw [if_pos n9] at h; cases h
        · rw [if_neg n9] at h
          cases hb : begD (M : Int) k c with
          | false => rw [hb] at h; cases h
          | true =>
            unfold facD at hk
            split at hk
            · rename_i fs
              split at hk
              · rename_i hc
                obtain rfl := Option.some.inj hk
                unfold begD at hb
                split at hb
                · rename_i bs
                  rw [Bool.and_eq_true, decide_eq_true_eq] at hb
                  cases t with
                  | tup ht ta =>
                    cases ta with
                    | cons t1 ta =>
                      cases ta with
                      | cons t2 ta =>
                        cases ta with
                        | cons t3 ta =>
                          cases ta
                          cases t1
                          cases t2 with
                          | tup hf t2 =>
                            cases t3 with
                            | tup hb3 t3 =>
                              obtain ⟨lf, rfl, e1, f1⟩ := below_nV t2 hc.1
                              obtain ⟨lb, rfl, e2, f2⟩ := below_nV t3 hb.2
                              refine ⟨_, _, _, M, lf, lb, rfl, ht, hf, hb3, ?_⟩
                              have pb := (pow_big (M := M) (k := lf.length) (by omega) (by omega) (by omega) (by omega)).mp
                              refine ⟨by omega, by omega, by omega, by omega, by omega, f1, f2, Nat.not_lt.mp fun z => ?_⟩
                              have := pb z
                              exact n9 ⟨by omega, by omega⟩
                · cases hb
              · cases hk
            · cases hk
  · cases h
end
set_option pp.deepTerms false
set_option pp.deepTerms.threshold 5
section
variable {P : Program} {wd : World} {K : PySem.W.Frag} {mg : Str → Option Value} {base : Heap} (T : Tp K mg)
theorem kb_rule_error_value : KBinds K T.d_rule_error ["value"] ["value"] oneW oneW := by
  obtain ⟨oc, od, kV, doc, pm, an, cdv, ct, osl, e, lk, hcd⟩ := T.F_rule_error.ex
  rw [e]
  exact kbinds_one fun a => rfl
theorem err_kind (d : PyData) : ∃ e : PyData, (∀ (w g : Addr) (H : Hp), Th w g H (errV d) e) ∧ Bd 1 20 0 e ∧ (errV d = .non ∨ ∃ s, errV d = .str s) := by
  have key : errV d = .non ∨ errV d = .str "rule" ∨ errV d = .str "modulus" ∨ errV d = .str "factors" ∨ errV d = .str "begin" := by
    unfold errV
    split
    · unfold errR
      split
      · exact .inr (.inr (.inl rfl))
      · split
        · unfold errF
          split
          · exact .inr (.inr (.inr (.inl rfl)))
          · split
            · exact .inr (.inr (.inr (.inl rfl)))
            · split
              · exact .inl rfl
              · exact .inr (.inr (.inr (.inr rfl)))
        · exact .inl rfl
    · exact .inr (.inl rfl)
  rcases key with e | e | e | e | e
  · exact ⟨.none, fun w g H => e ▸ .non, Bd.mono bd_non (Nat.le_refl _) (by decide) (by decide), .inl e⟩
  · exact ⟨.str "rule", fun w g H => e ▸ .str _, Bd.mono (bd_str (B := 1) (W := 20) _ (by decide +kernel)) (Nat.le_refl _) (Nat.le_refl _) (by decide), .inr ⟨_, e⟩⟩
  · exact ⟨.str "modulus", fun w g H => e ▸ .str _, Bd.mono (bd_str (B := 1) (W := 20) _ (by decide +kernel)) (Nat.le_refl _) (Nat.le_refl _) (by decide), .inr ⟨_, e⟩⟩
  · exact ⟨.str "factors", fun w g H => e ▸ .str _, Bd.mono (bd_str (B := 1) (W := 20) _ (by decide +kernel)) (Nat.le_refl _) (Nat.le_refl _) (by decide), .inr ⟨_, e⟩⟩
  · exact ⟨.str "begin", fun w g H => e ▸ .str _, Bd.mono (bd_str (B := 1) (W := 20) _ (by decide +kernel)) (Nat.le_refl _) (Nat.le_refl _) (by decide), .inr ⟨_, e⟩⟩
theorem rule_data {w g c : Addr} {H : Hp} {r af ab : Addr} {m k : Nat} {fs bs : List Nat} (R : RawAt H r af ab m k fs bs) : ∃ d, Th w g H (.ref r) d ∧ Bd (10 ^ 30) 1500 3 d := by
  refine ⟨_, .tup R.at_ (.cons (.int _) (.cons (.tup R.fat (th_nV fs)) (.cons (.tup R.bat (th_nV bs)) .nil))), ?_⟩
  have m9 := R.m9
  have k4 := R.k4
  have bdF : BdL (10 ^ 30) 512 0 (FD fs) := (bd_FD fs fun v hv => by have := R.fk.2 v hv; omega).mono (Nat.le_refl _) (by rw [R.fk.1]; omega) (Nat.le_refl _)
  have bdB : BdL (10 ^ 30) 512 0 (FD bs) := (bd_FD bs fun v hv => by have := R.bk.2 v hv; omega).mono (Nat.le_refl _) (by rw [R.bk.1]; omega) (Nat.le_refl _)
  have bm : Bd (10 ^ 30) 127 1 (.int (m : Int)) := (bd_int (B := 10 ^ 30) (i := (m : Int)) (by omega) (by decide)).mono (Nat.le_refl _) (Nat.le_refl _) (by decide)
  exact (tup3 bm bdF.tup bdB.tup).mono (Nat.le_refl _) (by decide) (by decide)
def spLaw (K : PySem.W.Frag) : Sp := fun vs H Q _ => ∃ (a : Addr) (ns : List Int), vs = [.ref a] ∧ SqL K H a (ns.map V.int) ∧ ns.length ≤ 63 ∧ ∀ H', Q (.bl true) H'
theorem ok_law (hsy : HasSys base) : FnG P wd K mg base 7 T.a_law T.d_law ["_law_script"] (spLaw K) := by
  have G_deck : FnOk P wd K mg base CX0 1 T.a_deck T.d_deck ["_law_script"] (spDeck K) := ok_deck T
  have G_odd : FnOk P wd K mg base CX0 3 T.a_odd T.d_odd ["_law_deck_here"] spOdd := ok_odd T
  have G_bent : FnOk P wd K mg base CX0 6 T.a_bent T.d_bent ["_law_deck_here", "_law_value", "_law_deep"] (spBent 3) := ok_bent T
  have G_rule : FnOk P wd K mg base CX0 2 T.a_rule T.d_rule ["_law_deck_here"] spRule := ok_rule T
  have G_word : FnOk P wd K mg base CX0 3 T.a_word T.d_word ["_law_value"] spWord := ok_word T
  have G_spoilt : FnOk P wd K mg base CX0 3 T.a_spoilt T.d_spoilt ["_law_deck_here", "_law_rule_here"] spSpoilt := ok_spoilt T
  have G_rule_error : FnOk P wd K mg base CX0 3 T.a_rule_error T.d_rule_error ["value"] spErr := ok_rule_error T
  have G_values : FnOk P wd K mg base CX0 2 T.a_values T.d_values ["rule", "many"] spValues := ok_values T
  refine fnG_of T.F_law sc_law (fun vs H Q E h => ?_) (fun cdv A ou s H vs Q E hgd0 hr h => ?_)
  · obtain ⟨a, ns, rfl, _⟩ := h
    rfl
  · have hgd : (cxOf CX0 P wd K mg base nm_law "law" (defScope s_law) T.a_law cdv A ou s H E).nox.A.guards = some [] := hgd0
    have hu4 : (cxOf CX0 P wd K mg base nm_law "law" (defScope s_law) T.a_law cdv A ou s H E).nox.A.units + 64 < cLine := hr.units
    obtain ⟨a, ns, rfl, hS, hl, q⟩ := h
    refine ⟨_, (pss_cons (ps_set (i := 1) sc_law.nd rfl (Or.inl rfl) (pe_call G_deck (hr.mono (by decide)) rfl T.g_deck T.F_deck.kp (b_deck T) .nil pass0 (pa_cons (pv 0) pa_nil)))
      (pss_cons (ps_for PassesOwn.never rfl (pi_range1 rfl T.n_range (pa_cons pe_int pa_nil)) (pg_name (i := 2) sc_law.nd rfl (Or.inl rfl)) (pss_cons (ps_set (i := 3) sc_law.nd rfl (Or.inl rfl) (pe_call G_rule (hr.mono (by decide)) rfl T.g_rule T.F_rule.kp (b_rule T) .nil pass0 (pa_cons (pv 1) pa_nil)))
      (pss_cons (ps_set (i := 4) sc_law.nd rfl (Or.inl rfl) (pe_call G_bent hr rfl T.g_bent T.F_bent.kp (b_bent T) .nil pass0 (pa_cons (pv 1) (pa_cons (pe_call G_bent hr rfl T.g_bent T.F_bent.kp (b_bent T) .nil pass0 (pa_cons (pv 1) (pa_cons (pv 3) (pa_cons pe_int pa_nil)))) (pa_cons pe_int pa_nil)))))
      (pss_cons (ps_set (i := 5) sc_law.nd rfl (Or.inl rfl) (pe_lst (pa_cons (pv 3) (pa_cons (pe_call G_bent hr rfl T.g_bent T.F_bent.kp (b_bent T) .nil pass0 (pa_cons (pv 1) (pa_cons (pv 3) (pa_cons pe_int pa_nil)))) (pa_cons (pe_call G_bent hr rfl T.g_bent T.F_bent.kp (b_bent T) .nil pass0 (pa_cons (pv 1) (pa_cons (pv 3) (pa_cons pe_int pa_nil)))) (pa_cons (pv 4) (pa_cons (pe_call G_odd (hr.mono (by decide)) rfl T.g_odd T.F_odd.kp (b_odd T) .nil pass0 (pa_cons (pv 1) pa_nil)) pa_nil)))))))
      (pss_one (ps_for PassesOwn.never rfl (pi_list (pe_op op_cat (pv 5) (pe_call G_spoilt (hr.mono (by decide)) rfl T.g_spoilt T.F_spoilt.kp (b_spoilt T) .nil pass0 (pa_cons (pv 1) (pa_cons (pv 3) pa_nil))))) (pg_name (i := 6) sc_law.nd rfl (Or.inl rfl)) (pss_cons (ps_par (i := 7) (j := 8) rfl sc_law.nd rfl rfl (by decide) rfl rfl (pa_cons (pe_callB (call_reprT hsy hgd hu4) rfl T.n_repr (by decide +kernel) (pa_cons (pv 6) pa_nil)) (pa_cons (pe_call G_word (hr.mono (by decide)) rfl T.g_word T.F_word.kp (b_word T) .nil pass0 (pa_cons (pv 6) pa_nil)) pa_nil)) rfl)
      (pss_cons (ps_if (PW.pt (pw_or (pt_cmpR op_ne (pe_callB (call_reprT hsy hgd hu4) rfl T.n_repr (by decide +kernel) (pa_cons (pe_lst (pa_cons (pe_call G_rule_error (hr.mono (by decide)) rfl T.g_rule_error T.F_rule_error.kp (b_rule_error T) .nil pass0 (pa_cons (pv 6) pa_nil)) (pa_cons (pe_callK0 G_rule_error (hr.mono (by decide)) rfl T.g_rule_error T.F_rule_error.kp (kb_rule_error_value T) pass0 (pk_cons (pv 6) pk_nil)) pa_nil))) pa_nil)) (pe_callB (call_reprT hsy hgd hu4) rfl T.n_repr (by decide +kernel) (pa_cons (pe_lst (pa_cons (pv 8) (pa_cons (pv 8) pa_nil))) pa_nil)) (nomark _)) (pw_or1 (pt_cmpR op_ne (pe_callB (call_reprT hsy hgd hu4) rfl T.n_repr (by decide +kernel) (pa_cons (pv 6) pa_nil)) (pv 7) (nomark _))))) (pss_one (ps_ret pe_bl)) pss_nil)
      (pss_one (ps_if (pt_cmpR op_isN (pv 8) pe_non (nomark _)) (pss_cons (ps_asg (pv 6) (pg_tup rfl (pgs_cons (pg_name (i := 9) sc_law.nd rfl (Or.inl rfl)) (pgs_cons (pg_name (i := 10) sc_law.nd rfl (Or.inl rfl)) (pgs_cons (pg_name (i := 11) sc_law.nd rfl (Or.inl rfl)) pgs_nil)))))
      (pss_cons (ps_set (i := 12) sc_law.nd rfl (Or.inl rfl) (pe_op op_mod (pe_callTy call_int1 rfl T.n_int (by decide +kernel) (pa_cons (pe_callB (cr_sum rfl) rfl T.n_sum (by decide +kernel) (pa_cons (pe_lc (own := [("_law_one", 13), ("_law_other", 14)]) (g := gTup K 2 (gCons (gName 13) (gCons (gName 14) gNil))) rfl sc_law.nd (RZ.pi_zipA rfl T.n_zip (pa_cons (pv 10) (pa_cons (pe_revT (pv 11)) pa_nil))) (blkOk_by (N := nm_law) (sc := defScope s_law) (by decide +kernel)) (fun _ _ _ _ _ => pg_tup rfl (pgs_cons (pg_name (i := 13) sc_law.nd rfl (Or.inl rfl) (Or.inr rfl)) (pgs_cons (pg_name (i := 14) sc_law.nd rfl (Or.inl rfl) (Or.inr rfl)) pgs_nil))) (fun _ _ _ _ _ => pts_nil) (fun _ _ _ _ _ => (pe_op op_mul (pv 13) (pv 14)))) pa_nil)) pa_nil)) (pv 9)))
      (pss_one (ps_if (pt_cmpR op_ne (pe_callB (call_reprT hsy hgd hu4) rfl T.n_repr (by decide +kernel) (pa_cons (pe_call G_values (hr.mono (by decide)) rfl T.g_values T.F_values.kp (b_values T) .nil pass0 (pa_cons (pv 6) (pa_cons (pe_op op_add (pe_callB call_len_seq rfl T.n_len PySem.boot_len (pa_cons (pv 11) pa_nil)) pe_int) pa_nil))) pa_nil)) (pe_callB (call_reprT hsy hgd hu4) rfl T.n_repr (by decide +kernel) (pa_cons (pe_op op_catA (pv 11) (pe_tup (pa_cons (pv 12) pa_nil))) pa_nil)) (nomark _)) (pss_one (ps_ret pe_bl)) pss_nil)))) pss_nil))))))))))
      (pss_one (ps_ret pe_bl)))), ?_⟩
    walk_at "go"
    refine ⟨a, ns, rfl, hS, hl, fun w g c H1 s1 W1 => ?_⟩
    walk_at "go"
    refine for_it walk_range (fun i σ H2 => ∃ y2 y3 y4 y5 y6 y7 y8 y9 y10 y11 y12 : Option V, σ = [some (.ref a), some (.ref w), y2, y3, y4, y5, y6, y7, y8, y9, y10, y11, y12, none, none] ∧ Dk w g c H2)
      ⟨_, _, _, _, _, _, _, _, _, _, _, rfl, W1⟩ (fun _ _ _ _ _ => trivial) (fun i x σ H2 H3 hi px y => ?_) (fun σ H2 px => ?_)
    · obtain ⟨y2, y3, y4, y5, y6, y7, y8, y9, y10, y11, y12, rfl, W2⟩ := px
      obtain ⟨rfl, rfl⟩ := y
      clear W1 s1 hS hi
      walk_at "go"
      refine ⟨w, g, c, rfl, W2, fun r af ab m k fs bs H4 s4 W4 R => ?_⟩
      obtain ⟨dR, tR, bR⟩ := rule_data (w := w) (g := g) (c := c) R
      have R4 := R
      walk_at "go"
      refine ⟨w, g, c, .ref r, dR, 2, 10 ^ 30, 1500, 3, rfl, W4, tR, bR, Nat.le_refl _, by decide, by decide, by decide, fun x1 d1 H5 s5 W5 t5 b5 => ?_⟩
      walk_at "go"
      refine ⟨w, g, c, x1, d1, 2, 10 ^ 30 + 1, bw 1500 3, 8, rfl, W5, t5, b5, by decide, by decide, by decide, by decide, fun x2 d2 H6 s6 W6 t6 b6 => ?_⟩
      have Y : Ly "mixed" w g c H4 H6 [x2] [d2] := ⟨s5.trans s6, W6, .cons t6 .nil⟩
      clear s5 s6 t5 b5 W5 W6 t6
      walk_at "go"
      refine ⟨w, g, c, .ref r, dR, 2, 10 ^ 30, 1500, 3, rfl, Y.dk, tR.go2 W4.tups Y.go, bR, Nat.le_refl _, by decide, by decide, by decide, fun x3 d3 H7 s7 W7 t7 b7 => ?_⟩
      replace Y := (Y.goes s7 W7).more t7
      walk_at "go"
      refine ⟨w, g, c, .ref r, dR, 1, 10 ^ 30, 1500, 3, rfl, Y.dk, tR.go2 W4.tups Y.go, bR, Nat.le_refl _, by decide, by decide, by decide, fun x4 d4 H8 s8 W8 t8 b8 => ?_⟩
      replace Y := (Y.goes s8 W8).more t8
      clear s7 W7 t7 s8 W8 t8
      walk_at "go"
      refine ⟨w, g, c, rfl, Y.dk, fun x5 d5 H9 s9 W9 t9 b9 => ?_⟩
      replace Y := (Y.goes s9 W9).more t9
      clear s9 W9 t9
      walk_at "go"
      intro q1 nq1
      generalize hUq : upd _ q1 _ = J1
      have tR9 := tR.go2 W4.tups Y.go
      obtain ⟨s10, W10, a10⟩ := new_ofC Y.dk nq1 hUq
      have tA : ThAll w g J1 [.ref r, x3, x4, x2, x5] [dR, d3, d4, d2, d5] := ThAll.same2 s10 (.cons tR9 (.cons Y.th.tl.tl.hd (.cons Y.th.tl.hd (.cons Y.th.tl.tl.tl.hd (.cons Y.th.hd .nil)))))
      replace Y := Y.same s10
      have gA := Y.go
      have R10 := R.go W4 gA
      clear hUq nq1 s10 Y tR9
      have bA : ∀ d ∈ [dR, d3, d4, d2, d5], Bd (10 ^ 31) 200000 20 d := by
        refine List.forall_mem_cons.mpr ⟨bR.mono (by decide) (by decide) (by decide), ?_⟩
        refine List.forall_mem_cons.mpr ⟨b7.mono (by decide) (by decide) (by decide), ?_⟩
        refine List.forall_mem_cons.mpr ⟨b8.mono (by decide) (by decide) (by decide), ?_⟩
        refine List.forall_mem_cons.mpr ⟨b6.mono (by decide) (by decide) (by decide), ?_⟩
        refine List.forall_mem_cons.mpr ⟨b9.mono (by decide) (by decide) (by decide), ?_⟩
        exact fun d h => (by cases h)
      clear b6 b7 b8 b9
      have hr10 := R10.at_
      walk_at "go"
      refine ⟨w, g, c, r, af, ab, m, k, fs, bs, rfl, W10, R10, fun p2 n2 H11 s11 W11 L11 n100 => ?_⟩
      obtain ⟨ys, es, a11, tB, bB, ln⟩ := L11
      have a10' := a10.go s11
      have tA' := tA.go2 W10.tups s11
      refine ⟨q1, p2, _, _, rfl, rfl, a10'.at_, a11.at_, szl (by simp; omega), ?_⟩
      intro q3 nq3
      generalize hUq : upd _ q3 _ = J3
      obtain ⟨s12, W12, a12⟩ := new_ofC W11 nq3 hUq
      have tC : ThAll w g J3 ([.ref r, x3, x4, x2, x5] ++ ys) ([dR, d3, d4, d2, d5] ++ es) := (tA'.append tB).same2 s12
      have bC : ∀ d ∈ [dR, d3, d4, d2, d5] ++ es, Bd (10 ^ 31) 200000 20 d := fun d hd => (List.mem_append.mp hd).elim (bA d) (fun h => (bB d h).mono (by decide) (by decide) (by decide))
      obtain ⟨xsA, dsA, hxs⟩ : ∃ xsA dsA, xsA = [.ref r, x3, x4, x2, x5] ++ ys ∧ dsA = [dR, d3, d4, d2, d5] ++ es := ⟨_, _, rfl, rfl⟩
      rw [← hxs.1] at a12 tC
      rw [← hxs.2] at tC bC
      clear hUq nq3 s12 s11 tA tA' tB bA bB a10 a10' a11 hxs W10 W11 gA R10 hr10 tR bR R R4 W4 s4 W2
      walk_at "go"
      refine ⟨⟨_, sqL_of a12.at_⟩, ?_⟩
      refine for_it (walk_list (xs := xsA)) (fun j σ H20 => ∃ z2 z3 z4 z5 z6 z7 z8 z9 z10 z11 z12 : Option V, σ = [some (.ref a), some (.ref w), z2, z3, z4, z5, z6, z7, z8, z9, z10, z11, z12, none, none] ∧ Dk w g c H20 ∧ Ac w g c H20 q3 (.lst xsA) ∧ ThAll w g H20 xsA dsA)
        ⟨_, _, _, _, _, _, _, _, _, _, _, rfl, W12, a12, tC⟩ (fun j σ H20 _ pz => ?_) (fun j x σ H20 H21 hj pz y => ?_) (fun σ H20 pz => ?_)
      · obtain ⟨z2, z3, z4, z5, z6, z7, z8, z9, z10, z11, z12, _, _, hz, _⟩ := pz
        exact sqL_of hz.at_
      · obtain ⟨z2, z3, z4, z5, z6, z7, z8, z9, z10, z11, z12, rfl, W20, a20, t20⟩ := pz
        obtain ⟨rfl, hx⟩ := y
        obtain ⟨d, hd, td⟩ := t20.get hx
        have bd := bC d (List.mem_of_getElem? hd)
        clear W12 a12 tC hx hd hj ln n100
        walk_at "go"
        refine repr_val td.toD bd.ok (by decide) (Nat.le_trans bd.wt (by decide)) (Nat.le_trans bd.dp (by decide)) ?_
        walk_at "go"
        refine ⟨w, g, x, d, rfl, td, Nat.le_trans bd.wt (by decide), fun H22 s22 => ?_⟩
        replace td := td.same2 s22
        obtain ⟨eD, tE, bE, kE⟩ := err_kind d
        have bL := ((BdL.one bE).app (BdL.one bE)).lst
        have rl := fun (H' : Hp) (th : Th w g H' x d) (h : errV d = .non) => rule_of th h
        walk_at "go"
        refine ⟨w, g, x, d, rfl, td, Nat.le_trans bd.wt (by decide), fun H23 s23 => ?_⟩
        replace td := td.same2 s23
        walk_at "go"
        refine ⟨w, g, x, d, rfl, td, Nat.le_trans bd.wt (by decide), fun H24 s24 => ?_⟩
        replace td := td.same2 s24
        have S24 := (s22.trans s23).trans s24
        generalize hev : errV d = ev at *
        clear s22 s23 s24
        walk_at "go"
        intro o1 no1
        generalize hU1 : upd H24 o1 _ = H25
        obtain ⟨s25, ho1⟩ := new_of0 no1 hU1
        replace td := td.same2 s25
        refine repr_val (d := .list ([eD] ++ [eD])) (.lst (sqL_of ho1) (ThAll.toD (.cons (tE w g H25) (.cons (tE w g H25) .nil)))) bL.ok (by decide) (Nat.le_trans bL.wt (by decide)) (Nat.le_trans bL.dp (by decide)) ?_
        walk_at "go"
        intro o2 no2
        generalize hU2 : upd H25 o2 _ = H26
        obtain ⟨s26, ho2⟩ := new_of0 no2 hU2
        replace td := td.same2 s26
        have S26 := (S24.trans s25).trans s26
        refine repr_val (d := .list ([eD] ++ [eD])) (.lst (sqL_of ho2) (ThAll.toD (.cons (tE w g H26) (.cons (tE w g H26) .nil)))) bL.ok (by decide) (Nat.le_trans bL.wt (by decide)) (Nat.le_trans bL.dp (by decide)) ?_
        clear S24 s25 s26 hU1 hU2 no1 no2 ho1 ho2
        walk_at "go"
        refine ifDn (fun c => absurd rfl c) (fun _ => ?_)
        walk_at "go"
        refine repr_val td.toD bd.ok (by decide) (Nat.le_trans bd.wt (by decide)) (Nat.le_trans bd.dp (by decide)) ?_
        walk_at "go"
        refine ifDn (fun c => absurd rfl c) (fun _ => ?_)
        have W26 := W20.same S26
        have a26 := a20.same S26
        have t26 := t20.same2 S26
        rcases kE with e | ⟨s0, e⟩
        · subst e
          obtain ⟨r', af', ab', m', fs', bs', rfl, R⟩ := rl H26 td rfl
          clear rl bL tE bE
          have h1 := R.at_
          have hb1 := R.bat
          have hf1 := R.fat
          walk_at "go"
          intro ar nr
          generalize hU : upd H26 ar _ = H27
          obtain ⟨s27, har⟩ := new_of0 nr hU
          rw [nV_rev] at har
          have rlr := R.rl
          have m9' := rlr.m9
          have m2' := rlr.m2
          have f4' := rlr.f4
          have nn : ∀ i f a : Nat, fs'[i]? = some f → bs'.reverse[i]? = some a → f < 10 ∧ a < 10 := fun i f a h1 h2 =>
            ⟨by have := rlr.fm f (List.mem_of_getElem? h1); omega, by have := rlr.bm a (List.mem_reverse.mp (List.mem_of_getElem? h2)); omega⟩
          clear hU nr
          walk_at "go"
          refine ⟨af', ar, nV fs', nV bs'.reverse, rfl, .inr ⟨sqT_of (s27 _ _ hf1), sqT_of har, fun D nD => ?_⟩⟩
          refine lc_it (walk_zipT rfl) (fun i H2 => H2 D = some (.lst (nV ((List.zipWith (· * ·) fs' bs'.reverse).take i))) ∧ Same H27 H2) ⟨upd_same, same_new nD⟩
            (fun i H2 _ p => ⟨sqT_of (p.2 _ _ (s27 _ _ hf1)), sqT_of (p.2 _ _ har)⟩) (fun i x H2 H3 hi p y => ?_) (fun H2 p => ?_)
          · obtain ⟨hD, S⟩ := p
            obtain ⟨T', x, y, rfl, hT, rfl, hx, hy⟩ := y
            obtain ⟨f, ef, rfl⟩ := nV_get hx
            obtain ⟨a, ea, rfl⟩ := nV_get hy
            obtain ⟨f10, a10⟩ := nn i f a ef ea
            generalize hU2 : upd H2 T' _ = H4
            obtain ⟨s4, hT4⟩ := new_of0 hT hU2
            have hD4 := s4 _ _ hD
            have S4 := S.trans s4
            walk_at "go"
            have i4 : i < 4 := by rw [nV_len] at hi; omega
            refine ⟨_, hD4, small1000 (by rw [nV_len, List.length_take]; omega), ?_⟩
            refine ⟨?_, same_mut S4 nD⟩
            rw [upd_same, zw_succ ef ea, nV_snoc, Int.natCast_mul]
          · obtain ⟨hD, S⟩ := p
            rw [List.take_of_length_le (by rw [List.length_zipWith, nV_len, nV_len]; exact Nat.le_refl _)] at hD
            refine ⟨D, (List.zipWith (· * ·) fs' bs'.reverse).map fun k => ((k : Nat) : Int), rfl, sqL_of (by rw [hD, nV_ints]), ?_⟩
            rw [sum_nat]
            have S28 := s27.trans S
            have R28 := R.same S28
            have hb28 := R28.bat
            walk_at "go"
            refine ⟨r', af', ab', m', fs', bs', fs'.length + 1, by rw [nV_len, rlr.fb]; rfl, R28, by omega, fun p H30 s30 hp => ?_⟩
            have eN : rw_ m' fs' bs' (fs'.length + 1) = bs' ++ [nxt m' fs' bs'] := by
              rw [rw_succ, rw_begin rlr]
              have := x_next rlr 0
              rw [Nat.zero_add] at this
              rw [this]
              rfl
            rw [eN] at hp
            have bN : Bd (10 ^ 30) 700 1 (.tuple (FD (bs' ++ [nxt m' fs' bs']))) := by
              refine ((bd_FD _ fun v hv => ?_).mono (Nat.le_refl _) ?_ (Nat.le_refl _)).tup
              · rcases List.mem_append.mp hv with h | h
                · have := rlr.bm v h; omega
                · rw [List.mem_singleton.mp h]
                  have := nxt_lt (m := m') (fs := fs') (by omega) bs'
                  omega
              · have := rlr.fb
                rw [List.length_append, List.length_singleton]
                omega
            have hb30 := s30 _ _ hb28
            clear har nn
            walk_at "go"
            refine repr_val (d := .tuple (FD (bs' ++ [nxt m' fs' bs']))) (.tup (sqT_of hp) (ThAll.toD (w := w) (g := g) (th_nV _))) bN.ok (by decide) (Nat.le_trans bN.wt (by decide)) (Nat.le_trans bN.dp (by decide)) ?_
            walk_at "go"
            intro o3 no3
            generalize hU3 : upd H30 o3 _ = H31
            obtain ⟨s31, ho3⟩ := new_of0 no3 hU3
            have hb31 := s31 _ _ hb30
            refine cat_all hb31 ho3 (szl3 (by have := rlr.fb; rw [nV_len]; simp; omega)) fun p4 H32 s32 hp4 => ?_
            have eL : nV bs' ++ [V.int ((((List.zipWith (· * ·) fs' bs'.reverse).sum : Nat) : Int) % (m' : Int))] = nV (bs' ++ [nxt m' fs' bs']) := by
              rw [nV_snoc, ← Int.natCast_emod]
              rfl
            replace hp4 : H32 p4 = some (.tup (nV (bs' ++ [nxt m' fs' bs']))) := by rw [← eL]; exact hp4
            walk_at "go"
            refine repr_val (d := .tuple (FD (bs' ++ [nxt m' fs' bs']))) (.tup (sqT_of hp4) (ThAll.toD (w := w) (g := g) (th_nV _))) bN.ok (by decide) (Nat.le_trans bN.wt (by decide)) (Nat.le_trans bN.dp (by decide)) ?_
            walk_at "go"
            refine ifDn (fun c => absurd rfl c) (fun _ => ?_)
            have S32 := ((S28.trans s30).trans s31).trans s32
            exact ⟨_, _, _, _, _, _, _, _, _, _, _, rfl, W26.same S32, a26.same S32, t26.same2 S32⟩
        · subst e
          walk_at "go"
          refine ifD (fun c => by cases c) (fun _ => ?_)
          exact ⟨_, _, _, _, _, _, _, _, _, _, _, rfl, W26, a26, t26⟩
      · obtain ⟨z2, z3, z4, z5, z6, z7, z8, z9, z10, z11, z12, rfl, W20, _⟩ := pz
        exact ⟨_, _, _, _, _, _, _, _, _, _, _, rfl, W20⟩
    · obtain ⟨y2, y3, y4, y5, y6, y7, y8, y9, y10, y11, y12, rfl, W2⟩ := px
      walk_at "go"
      exact q _
end
theorem all_mk {l : PySem.W.OpenLaw} {w : World} {K : PySem.W.Frag} {h : Heap} {mg : Str → Option Value} {fa : Addr} (X : K.In h) (G : h.Ns mainGlobals mg) (hfa : mg "law" = some (.ref fa))
    {f_is_whole : Addr} {od_is_whole an_is_whole : Option Addr} {sl_is_whole : Array (Option Value)} {oc_is_whole kV_is_whole dc_is_whole pm_is_whole cd_is_whole ct_is_whole : Value}
    {f_is_triple : Addr} {od_is_triple an_is_triple : Option Addr} {sl_is_triple : Array (Option Value)} {oc_is_triple kV_is_triple dc_is_triple pm_is_triple cd_is_triple ct_is_triple : Value}
    {f_are_below : Addr} {od_are_below an_are_below : Option Addr} {sl_are_below : Array (Option Value)} {oc_are_below kV_are_below dc_are_below pm_are_below cd_are_below ct_are_below : Value}
    {f_power : Addr} {od_power an_power : Option Addr} {sl_power : Array (Option Value)} {oc_power kV_power dc_power pm_power cd_power ct_power : Value}
    {f_sum_ahead : Addr} {od_sum_ahead an_sum_ahead : Option Addr} {sl_sum_ahead : Array (Option Value)} {oc_sum_ahead kV_sum_ahead dc_sum_ahead pm_sum_ahead cd_sum_ahead ct_sum_ahead : Value}
    {f_rule_error : Addr} {od_rule_error an_rule_error : Option Addr} {sl_rule_error : Array (Option Value)} {oc_rule_error kV_rule_error dc_rule_error pm_rule_error cd_rule_error ct_rule_error : Value}
    {f_values : Addr} {od_values an_values : Option Addr} {sl_values : Array (Option Value)} {oc_values kV_values dc_values pm_values cd_values ct_values : Value}
    {f_deck : Addr} {od_deck an_deck : Option Addr} {sl_deck : Array (Option Value)} {oc_deck kV_deck dc_deck pm_deck cd_deck ct_deck : Value}
    {f_draw : Addr} {od_draw an_draw : Option Addr} {sl_draw : Array (Option Value)} {oc_draw kV_draw dc_draw pm_draw cd_draw ct_draw : Value}
    {f_pick : Addr} {od_pick an_pick : Option Addr} {sl_pick : Array (Option Value)} {oc_pick kV_pick dc_pick pm_pick cd_pick ct_pick : Value}
    {f_whole : Addr} {od_whole an_whole : Option Addr} {sl_whole : Array (Option Value)} {oc_whole kV_whole dc_whole pm_whole cd_whole ct_whole : Value}
    {f_odd : Addr} {od_odd an_odd : Option Addr} {sl_odd : Array (Option Value)} {oc_odd kV_odd dc_odd pm_odd cd_odd ct_odd : Value}
    {f_bent : Addr} {od_bent an_bent : Option Addr} {sl_bent : Array (Option Value)} {oc_bent kV_bent dc_bent pm_bent cd_bent ct_bent : Value}
    {f_numbers : Addr} {od_numbers an_numbers : Option Addr} {sl_numbers : Array (Option Value)} {oc_numbers kV_numbers dc_numbers pm_numbers cd_numbers ct_numbers : Value}
    {f_word : Addr} {od_word an_word : Option Addr} {sl_word : Array (Option Value)} {oc_word kV_word dc_word pm_word cd_word ct_word : Value}
    {f_rule : Addr} {od_rule an_rule : Option Addr} {sl_rule : Array (Option Value)} {oc_rule kV_rule dc_rule pm_rule cd_rule ct_rule : Value}
    {f_spoilt : Addr} {od_spoilt an_spoilt : Option Addr} {sl_spoilt : Array (Option Value)} {oc_spoilt kV_spoilt dc_spoilt pm_spoilt cd_spoilt ct_spoilt : Value}
    {f_law : Addr} {od_law an_law : Option Addr} {sl_law : Array (Option Value)} {oc_law kV_law dc_law pm_law cd_law ct_law : Value}
    (a_is_whole : PySem.W.nsIn K mainGlobals "is_whole" = some (some (.ref f_is_whole)))
    (l_is_whole : K.lookup f_is_whole = some ⟨oc_is_whole, od_is_whole, .func (PySem.W.fnOf "is_whole" "is_whole" (defArgs s_is_whole) (defBody s_is_whole) (defScope s_is_whole) .none kV_is_whole dc_is_whole pm_is_whole an_is_whole cd_is_whole ct_is_whole), sl_is_whole⟩)
    (c_is_whole : PySem.W.codeIn K cd_is_whole "is_whole" = true) (k_is_whole : PySem.W.keepIn K (.ref f_is_whole) = true)
    (a_is_triple : PySem.W.nsIn K mainGlobals "is_triple" = some (some (.ref f_is_triple)))
    (l_is_triple : K.lookup f_is_triple = some ⟨oc_is_triple, od_is_triple, .func (PySem.W.fnOf "is_triple" "is_triple" (defArgs s_is_triple) (defBody s_is_triple) (defScope s_is_triple) .none kV_is_triple dc_is_triple pm_is_triple an_is_triple cd_is_triple ct_is_triple), sl_is_triple⟩)
    (c_is_triple : PySem.W.codeIn K cd_is_triple "is_triple" = true) (k_is_triple : PySem.W.keepIn K (.ref f_is_triple) = true)
    (a_are_below : PySem.W.nsIn K mainGlobals "are_below" = some (some (.ref f_are_below)))
    (l_are_below : K.lookup f_are_below = some ⟨oc_are_below, od_are_below, .func (PySem.W.fnOf "are_below" "are_below" (defArgs s_are_below) (defBody s_are_below) (defScope s_are_below) .none kV_are_below dc_are_below pm_are_below an_are_below cd_are_below ct_are_below), sl_are_below⟩)
    (c_are_below : PySem.W.codeIn K cd_are_below "are_below" = true) (k_are_below : PySem.W.keepIn K (.ref f_are_below) = true)
    (a_power : PySem.W.nsIn K mainGlobals "power" = some (some (.ref f_power)))
    (l_power : K.lookup f_power = some ⟨oc_power, od_power, .func (PySem.W.fnOf "power" "power" (defArgs s_power) (defBody s_power) (defScope s_power) .none kV_power dc_power pm_power an_power cd_power ct_power), sl_power⟩)
    (c_power : PySem.W.codeIn K cd_power "power" = true) (k_power : PySem.W.keepIn K (.ref f_power) = true)
    (a_sum_ahead : PySem.W.nsIn K mainGlobals "sum_ahead" = some (some (.ref f_sum_ahead)))
    (l_sum_ahead : K.lookup f_sum_ahead = some ⟨oc_sum_ahead, od_sum_ahead, .func (PySem.W.fnOf "sum_ahead" "sum_ahead" (defArgs s_sum_ahead) (defBody s_sum_ahead) (defScope s_sum_ahead) .none kV_sum_ahead dc_sum_ahead pm_sum_ahead an_sum_ahead cd_sum_ahead ct_sum_ahead), sl_sum_ahead⟩)
    (c_sum_ahead : PySem.W.codeIn K cd_sum_ahead "sum_ahead" = true) (k_sum_ahead : PySem.W.keepIn K (.ref f_sum_ahead) = true)
    (a_rule_error : PySem.W.nsIn K mainGlobals "rule_error" = some (some (.ref f_rule_error)))
    (l_rule_error : K.lookup f_rule_error = some ⟨oc_rule_error, od_rule_error, .func (PySem.W.fnOf "rule_error" "rule_error" (defArgs s_rule_error) (defBody s_rule_error) (defScope s_rule_error) .none kV_rule_error dc_rule_error pm_rule_error an_rule_error cd_rule_error ct_rule_error), sl_rule_error⟩)
    (c_rule_error : PySem.W.codeIn K cd_rule_error "rule_error" = true) (k_rule_error : PySem.W.keepIn K (.ref f_rule_error) = true)
    (a_values : PySem.W.nsIn K mainGlobals "values" = some (some (.ref f_values)))
    (l_values : K.lookup f_values = some ⟨oc_values, od_values, .func (PySem.W.fnOf "values" "values" (defArgs s_values) (defBody s_values) (defScope s_values) .none kV_values dc_values pm_values an_values cd_values ct_values), sl_values⟩)
    (c_values : PySem.W.codeIn K cd_values "values" = true) (k_values : PySem.W.keepIn K (.ref f_values) = true)
    (a_deck : PySem.W.nsIn K mainGlobals "_law_deck" = some (some (.ref f_deck)))
    (l_deck : K.lookup f_deck = some ⟨oc_deck, od_deck, .func (PySem.W.fnOf "_law_deck" "_law_deck" (defArgs s_deck) (defBody s_deck) (defScope s_deck) .none kV_deck dc_deck pm_deck an_deck cd_deck ct_deck), sl_deck⟩)
    (c_deck : PySem.W.codeIn K cd_deck "_law_deck" = true) (k_deck : PySem.W.keepIn K (.ref f_deck) = true)
    (a_draw : PySem.W.nsIn K mainGlobals "_law_draw" = some (some (.ref f_draw)))
    (l_draw : K.lookup f_draw = some ⟨oc_draw, od_draw, .func (PySem.W.fnOf "_law_draw" "_law_draw" (defArgs s_draw) (defBody s_draw) (defScope s_draw) .none kV_draw dc_draw pm_draw an_draw cd_draw ct_draw), sl_draw⟩)
    (c_draw : PySem.W.codeIn K cd_draw "_law_draw" = true) (k_draw : PySem.W.keepIn K (.ref f_draw) = true)
    (a_pick : PySem.W.nsIn K mainGlobals "_law_pick" = some (some (.ref f_pick)))
    (l_pick : K.lookup f_pick = some ⟨oc_pick, od_pick, .func (PySem.W.fnOf "_law_pick" "_law_pick" (defArgs s_pick) (defBody s_pick) (defScope s_pick) .none kV_pick dc_pick pm_pick an_pick cd_pick ct_pick), sl_pick⟩)
    (c_pick : PySem.W.codeIn K cd_pick "_law_pick" = true) (k_pick : PySem.W.keepIn K (.ref f_pick) = true)
    (a_whole : PySem.W.nsIn K mainGlobals "_law_whole" = some (some (.ref f_whole)))
    (l_whole : K.lookup f_whole = some ⟨oc_whole, od_whole, .func (PySem.W.fnOf "_law_whole" "_law_whole" (defArgs s_whole) (defBody s_whole) (defScope s_whole) .none kV_whole dc_whole pm_whole an_whole cd_whole ct_whole), sl_whole⟩)
    (c_whole : PySem.W.codeIn K cd_whole "_law_whole" = true) (k_whole : PySem.W.keepIn K (.ref f_whole) = true)
    (a_odd : PySem.W.nsIn K mainGlobals "_law_odd" = some (some (.ref f_odd)))
    (l_odd : K.lookup f_odd = some ⟨oc_odd, od_odd, .func (PySem.W.fnOf "_law_odd" "_law_odd" (defArgs s_odd) (defBody s_odd) (defScope s_odd) .none kV_odd dc_odd pm_odd an_odd cd_odd ct_odd), sl_odd⟩)
    (c_odd : PySem.W.codeIn K cd_odd "_law_odd" = true) (k_odd : PySem.W.keepIn K (.ref f_odd) = true)
    (a_bent : PySem.W.nsIn K mainGlobals "_law_bent" = some (some (.ref f_bent)))
    (l_bent : K.lookup f_bent = some ⟨oc_bent, od_bent, .func (PySem.W.fnOf "_law_bent" "_law_bent" (defArgs s_bent) (defBody s_bent) (defScope s_bent) .none kV_bent dc_bent pm_bent an_bent cd_bent ct_bent), sl_bent⟩)
    (c_bent : PySem.W.codeIn K cd_bent "_law_bent" = true) (k_bent : PySem.W.keepIn K (.ref f_bent) = true)
    (a_numbers : PySem.W.nsIn K mainGlobals "_law_numbers" = some (some (.ref f_numbers)))
    (l_numbers : K.lookup f_numbers = some ⟨oc_numbers, od_numbers, .func (PySem.W.fnOf "_law_numbers" "_law_numbers" (defArgs s_numbers) (defBody s_numbers) (defScope s_numbers) .none kV_numbers dc_numbers pm_numbers an_numbers cd_numbers ct_numbers), sl_numbers⟩)
    (c_numbers : PySem.W.codeIn K cd_numbers "_law_numbers" = true) (k_numbers : PySem.W.keepIn K (.ref f_numbers) = true)
    (a_word : PySem.W.nsIn K mainGlobals "_law_word" = some (some (.ref f_word)))
    (l_word : K.lookup f_word = some ⟨oc_word, od_word, .func (PySem.W.fnOf "_law_word" "_law_word" (defArgs s_word) (defBody s_word) (defScope s_word) .none kV_word dc_word pm_word an_word cd_word ct_word), sl_word⟩)
    (c_word : PySem.W.codeIn K cd_word "_law_word" = true) (k_word : PySem.W.keepIn K (.ref f_word) = true)
    (a_rule : PySem.W.nsIn K mainGlobals "_law_rule" = some (some (.ref f_rule)))
    (l_rule : K.lookup f_rule = some ⟨oc_rule, od_rule, .func (PySem.W.fnOf "_law_rule" "_law_rule" (defArgs s_rule) (defBody s_rule) (defScope s_rule) .none kV_rule dc_rule pm_rule an_rule cd_rule ct_rule), sl_rule⟩)
    (c_rule : PySem.W.codeIn K cd_rule "_law_rule" = true) (k_rule : PySem.W.keepIn K (.ref f_rule) = true)
    (a_spoilt : PySem.W.nsIn K mainGlobals "_law_spoilt" = some (some (.ref f_spoilt)))
    (l_spoilt : K.lookup f_spoilt = some ⟨oc_spoilt, od_spoilt, .func (PySem.W.fnOf "_law_spoilt" "_law_spoilt" (defArgs s_spoilt) (defBody s_spoilt) (defScope s_spoilt) .none kV_spoilt dc_spoilt pm_spoilt an_spoilt cd_spoilt ct_spoilt), sl_spoilt⟩)
    (c_spoilt : PySem.W.codeIn K cd_spoilt "_law_spoilt" = true) (k_spoilt : PySem.W.keepIn K (.ref f_spoilt) = true)
    (a_law : PySem.W.nsIn K mainGlobals "law" = some (some (.ref f_law)))
    (l_law : K.lookup f_law = some ⟨oc_law, od_law, .func (PySem.W.fnOf "law" "law" (defArgs s_law) (defBody s_law) (defScope s_law) .none kV_law dc_law pm_law an_law cd_law ct_law), sl_law⟩)
    (c_law : PySem.W.codeIn K cd_law "law" = true) (k_law : PySem.W.keepIn K (.ref f_law) = true)
    (z_abs : PySem.W.nsIn K mainGlobals "abs" = some none)
    (z_all : PySem.W.nsIn K mainGlobals "all" = some none)
    (z_bool : PySem.W.nsIn K mainGlobals "bool" = some none)
    (z_int : PySem.W.nsIn K mainGlobals "int" = some none)
    (z_isinstance : PySem.W.nsIn K mainGlobals "isinstance" = some none)
    (z_len : PySem.W.nsIn K mainGlobals "len" = some none)
    (z_list : PySem.W.nsIn K mainGlobals "list" = some none)
    (z_range : PySem.W.nsIn K mainGlobals "range" = some none)
    (z_repr : PySem.W.nsIn K mainGlobals "repr" = some none)
    (z_str : PySem.W.nsIn K mainGlobals "str" = some none)
    (z_sum : PySem.W.nsIn K mainGlobals "sum" = some none)
    (z_tuple : PySem.W.nsIn K mainGlobals "tuple" = some none)
    (z_zip : PySem.W.nsIn K mainGlobals "zip" = some none)
    {t__MOST_MODULUS : Tok} (m__MOST_MODULUS : PySem.W.nsIn K mainGlobals "_MOST_MODULUS" = some (some (.int 9 t__MOST_MODULUS)))
    {t__MOST_FACTORS : Tok} (m__MOST_FACTORS : PySem.W.nsIn K mainGlobals "_MOST_FACTORS" = some (some (.int 4 t__MOST_FACTORS)))
    {t__MOST_BEGINS : Tok} (m__MOST_BEGINS : PySem.W.nsIn K mainGlobals "_MOST_BEGINS" = some (some (.int 5000 t__MOST_BEGINS)))
    : ∃ fd : FuncData, (∀ (s : Shared) (v : Value), BindsTo s fd ⟨[v], []⟩ [("_law_script", v)]) ∧ ∀ base : Heap, K.In base → base.Ns mainGlobals mg → HasSys base → FnG l.prog w K mg base 7 fa fd ["_law_script"] (spLaw K) := by
  have e := hfa.symm.trans (PySem.W.mg_of X G a_law)
  cases e
  let T : Tp K mg := {
    a_is_whole := f_is_whole, d_is_whole := _, F_is_whole := fun_mk (st := s_is_whole) l_is_whole c_is_whole k_is_whole, g_is_whole := PySem.W.mg_of X G a_is_whole,
    a_is_triple := f_is_triple, d_is_triple := _, F_is_triple := fun_mk (st := s_is_triple) l_is_triple c_is_triple k_is_triple, g_is_triple := PySem.W.mg_of X G a_is_triple,
    a_are_below := f_are_below, d_are_below := _, F_are_below := fun_mk (st := s_are_below) l_are_below c_are_below k_are_below, g_are_below := PySem.W.mg_of X G a_are_below,
    a_power := f_power, d_power := _, F_power := fun_mk (st := s_power) l_power c_power k_power, g_power := PySem.W.mg_of X G a_power,
    a_sum_ahead := f_sum_ahead, d_sum_ahead := _, F_sum_ahead := fun_mk (st := s_sum_ahead) l_sum_ahead c_sum_ahead k_sum_ahead, g_sum_ahead := PySem.W.mg_of X G a_sum_ahead,
    a_rule_error := f_rule_error, d_rule_error := _, F_rule_error := fun_mk (st := s_rule_error) l_rule_error c_rule_error k_rule_error, g_rule_error := PySem.W.mg_of X G a_rule_error,
    a_values := f_values, d_values := _, F_values := fun_mk (st := s_values) l_values c_values k_values, g_values := PySem.W.mg_of X G a_values,
    a_deck := f_deck, d_deck := _, F_deck := fun_mk (st := s_deck) l_deck c_deck k_deck, g_deck := PySem.W.mg_of X G a_deck,
    a_draw := f_draw, d_draw := _, F_draw := fun_mk (st := s_draw) l_draw c_draw k_draw, g_draw := PySem.W.mg_of X G a_draw,
    a_pick := f_pick, d_pick := _, F_pick := fun_mk (st := s_pick) l_pick c_pick k_pick, g_pick := PySem.W.mg_of X G a_pick,
    a_whole := f_whole, d_whole := _, F_whole := fun_mk (st := s_whole) l_whole c_whole k_whole, g_whole := PySem.W.mg_of X G a_whole,
    a_odd := f_odd, d_odd := _, F_odd := fun_mk (st := s_odd) l_odd c_odd k_odd, g_odd := PySem.W.mg_of X G a_odd,
    a_bent := f_bent, d_bent := _, F_bent := fun_mk (st := s_bent) l_bent c_bent k_bent, g_bent := PySem.W.mg_of X G a_bent,
    a_numbers := f_numbers, d_numbers := _, F_numbers := fun_mk (st := s_numbers) l_numbers c_numbers k_numbers, g_numbers := PySem.W.mg_of X G a_numbers,
    a_word := f_word, d_word := _, F_word := fun_mk (st := s_word) l_word c_word k_word, g_word := PySem.W.mg_of X G a_word,
    a_rule := f_rule, d_rule := _, F_rule := fun_mk (st := s_rule) l_rule c_rule k_rule, g_rule := PySem.W.mg_of X G a_rule,
    a_spoilt := f_spoilt, d_spoilt := _, F_spoilt := fun_mk (st := s_spoilt) l_spoilt c_spoilt k_spoilt, g_spoilt := PySem.W.mg_of X G a_spoilt,
    a_law := fa, d_law := _, F_law := fun_mk (st := s_law) l_law c_law k_law, g_law := PySem.W.mg_of X G a_law,
    n_abs := PySem.W.mg_none_of X G z_abs,
    n_all := PySem.W.mg_none_of X G z_all,
    n_bool := PySem.W.mg_none_of X G z_bool,
    n_int := PySem.W.mg_none_of X G z_int,
    n_isinstance := PySem.W.mg_none_of X G z_isinstance,
    n_len := PySem.W.mg_none_of X G z_len,
    n_list := PySem.W.mg_none_of X G z_list,
    n_range := PySem.W.mg_none_of X G z_range,
    n_repr := PySem.W.mg_none_of X G z_repr,
    n_str := PySem.W.mg_none_of X G z_str,
    n_sum := PySem.W.mg_none_of X G z_sum,
    n_tuple := PySem.W.mg_none_of X G z_tuple,
    n_zip := PySem.W.mg_none_of X G z_zip,
    k__MOST_MODULUS := t__MOST_MODULUS, m__MOST_MODULUS := PySem.W.mg_of X G m__MOST_MODULUS,
    k__MOST_FACTORS := t__MOST_FACTORS, m__MOST_FACTORS := PySem.W.mg_of X G m__MOST_FACTORS,
    k__MOST_BEGINS := t__MOST_BEGINS, m__MOST_BEGINS := PySem.W.mg_of X G m__MOST_BEGINS }
  exact ⟨T.d_law, fun s v => .of_eq rfl, fun base _ _ hsy => ok_law T hsy⟩
end G67
open PySem PySem.W PyProof.Rows
set_option maxHeartbeats 0 in
theorem PySem.Challenge.cw_leastmakers_k67_rules_judged_holds : PySem.Challenge.rw_leastmakers_k67_rules_judged.Holds := by
  w_on; o_law; k_head; (case hw => w_witness2)
  k_fill
  refine G1.walkGS (l := PySem.Challenge.rw_leastmakers_k67_rules_judged) (n := 63) (k := 7) (x := "_law_script") (sp := fun K => G67.spLaw K) (by decide +kernel) rfl (by decide) rfl ⟨rfl, by decide, by decide⟩ (fun w h Y => PySem.W.kIn_of Y) ?F (fun K H a ns hl _ hS => ⟨a, ns, rfl, hS, hl, fun _ => rfl⟩)
  case F =>
    intro w mg fa h KX G hmg
    refine' G67.all_mk KX G hmg ?a_is_whole ?l_is_whole ?c_is_whole ?k_is_whole ?a_is_triple ?l_is_triple ?c_is_triple ?k_is_triple ?a_are_below ?l_are_below ?c_are_below ?k_are_below ?a_power ?l_power ?c_power ?k_power ?a_sum_ahead ?l_sum_ahead ?c_sum_ahead ?k_sum_ahead ?a_rule_error ?l_rule_error ?c_rule_error ?k_rule_error ?a_values ?l_values ?c_values ?k_values ?a_deck ?l_deck ?c_deck ?k_deck ?a_draw ?l_draw ?c_draw ?k_draw ?a_pick ?l_pick ?c_pick ?k_pick ?a_whole ?l_whole ?c_whole ?k_whole ?a_odd ?l_odd ?c_odd ?k_odd ?a_bent ?l_bent ?c_bent ?k_bent ?a_numbers ?l_numbers ?c_numbers ?k_numbers ?a_word ?l_word ?c_word ?k_word ?a_rule ?l_rule ?c_rule ?k_rule ?a_spoilt ?l_spoilt ?c_spoilt ?k_spoilt ?a_law ?l_law ?c_law ?k_law ?z_abs ?z_all ?z_bool ?z_int ?z_isinstance ?z_len ?z_list ?z_range ?z_repr ?z_str ?z_sum ?z_tuple ?z_zip ?m__MOST_MODULUS ?m__MOST_FACTORS ?m__MOST_BEGINS
    (case a_is_whole => k_is); (case l_is_whole => k_is); (case c_is_whole => k_is); (case k_is_whole => k_is); (case a_is_triple => k_is); (case l_is_triple => k_is)
    (case c_is_triple => k_is); (case k_is_triple => k_is); (case a_are_below => k_is); (case l_are_below => k_is); (case c_are_below => k_is); (case k_are_below => k_is)
    (case a_power => k_is); (case l_power => k_is); (case c_power => k_is); (case k_power => k_is); (case a_sum_ahead => k_is); (case l_sum_ahead => k_is)
    (case c_sum_ahead => k_is); (case k_sum_ahead => k_is); (case a_rule_error => k_is); (case l_rule_error => k_is); (case c_rule_error => k_is); (case k_rule_error => k_is)
    (case a_values => k_is); (case l_values => k_is); (case c_values => k_is); (case k_values => k_is); (case a_deck => k_is); (case l_deck => k_is)
    (case c_deck => k_is); (case k_deck => k_is); (case a_draw => k_is); (case l_draw => k_is); (case c_draw => k_is); (case k_draw => k_is)
    (case a_pick => k_is); (case l_pick => k_is); (case c_pick => k_is); (case k_pick => k_is); (case a_whole => k_is); (case l_whole => k_is)
    (case c_whole => k_is); (case k_whole => k_is); (case a_odd => k_is); (case l_odd => k_is); (case c_odd => k_is); (case k_odd => k_is)
    (case a_bent => k_is); (case l_bent => k_is); (case c_bent => k_is); (case k_bent => k_is); (case a_numbers => k_is); (case l_numbers => k_is)
    (case c_numbers => k_is); (case k_numbers => k_is); (case a_word => k_is); (case l_word => k_is); (case c_word => k_is); (case k_word => k_is)
    (case a_rule => k_is); (case l_rule => k_is); (case c_rule => k_is); (case k_rule => k_is); (case a_spoilt => k_is); (case l_spoilt => k_is)
    (case c_spoilt => k_is); (case k_spoilt => k_is); (case a_law => k_is); (case l_law => k_is); (case c_law => k_is); (case k_law => k_is)
    (case z_abs => k_is); (case z_all => k_is); (case z_bool => k_is); (case z_int => k_is); (case z_isinstance => k_is); (case z_len => k_is)
    (case z_list => k_is); (case z_range => k_is); (case z_repr => k_is); (case z_str => k_is); (case z_sum => k_is); (case z_tuple => k_is)
    (case z_zip => k_is); (case m__MOST_MODULUS => k_is); (case m__MOST_FACTORS => k_is); (case m__MOST_BEGINS => k_is)
