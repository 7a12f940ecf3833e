import PyProof.Rows.All
import Wide.All
import OpenK.AllK
import Wide.FinOn
import HandS.ForMost
import HandS.StrMore
import HandS.Wide
import HandS.IsInst
import HandS.Codes
import HandS.Conv
import HandS.Style
import HandS.Ends
import HandS.TupMul
import HandS.TupAny
import HandS.Words
import KE.GoesNew
import HandS.ForDict
import KE.GoesZip
import HandS.Zip
import HandS.Walk
import HandS.TupLen
import HandS.More
import PySem.Challenge.RW_leastmakers_k68_rows_far_out
set_option Elab.async false
set_option linter.all false
set_option maxRecDepth 100000
set_option maxHeartbeats 8000000
/-! repr of whole data, and promises of defs that call it -/
namespace G1
open PySem PySem.Spec PyProof.Rows L2

/-- a promise of a def where no repr is under way around the call -/
structure FnG (P : Program) (w : World) (K : PySem.W.Frag) (mg : Str → Option Value) (base : Heap) (k : Nat) (f : Addr) (fd : FuncData) (ps : List Str) (sp : Sp) : Prop where
  cnt : ∀ vs H Q E, sp vs H Q E → vs.length = ps.length
  go : ∀ (A : Around) (ou : List Env) (s : Shared) (H : Hp) (ar : Args) (us : List Value) (vs : List V) (Q : VK) (E : XK), A.guards = some [] → Room k A →
    Env0 P w K mg base A ou s H → BindsTo s fd ar (ps.zip us) → Vals vs us → sp vs H Q E →
    codeAny (model P w) A (.call (.ref f) ar) (CR CX0 ou P w H s Q E) s

theorem FnG.of {P : Program} {w : World} {K : PySem.W.Frag} {mg : Str → Option Value} {base : Heap} {k : Nat} {f : Addr} {fd : FuncData} {ps : List Str} {sp : Sp}
    (F : FnOk P w K mg base CX0 k f fd ps sp) : FnG P w K mg base k f fd ps sp :=
  ⟨F.len, fun A ou s H ar us vs Q E _ hr he hb hv hs => F.run A ou s H ar us vs Q E hr he hb hv hs⟩

section
variable {P : Program} {w : World} {K : PySem.W.Frag} {mg : Str → Option Value} {base : Heap}
theorem fnG_of {x qual : Str} {st : Stmt} {f : Addr} {fd : FuncData} {N ps : List Str} {k : Nat} {sp : Sp} (F : Fun K x qual st f fd) (S : FnScope N ps (defScope st))
    (cnt : ∀ vs H Q E, sp vs H Q E → vs.length = ps.length)
    (body : ∀ (cdv : Value) (A : Around) (ou : List Env) (s : Shared) (H : Hp) (vs : List V) (Q : VK) (E : XK), A.guards = some [] →
      Room k (A.deeper (envOfC qual (defScope st) s.heap.objs.size f cdv)) → sp vs H Q E →
      ∃ t, PSs (cxOf CX0 P w K mg base N qual (defScope st) f cdv A ou s H E).nox (defBody st) t ∧
        t { nx := fun _ H' => Q .non H', rt := Q } (start N vs) H) :
    FnG P w K mg base (k + 1) f fd ps sp := by
  obtain ⟨oc, od, kV, doc, pm, an, cdv, ct, osl, rfl, lk, hcd⟩ := F.ex
  refine ⟨cnt, fun A ou s H ar us vs Q E hgd hr e0 hb rv hsp => ?_⟩
  have inK : K.In s.heap := e0.mod.kin.keeps fun b o e => (e0.bs b o e).1
  have hlim : s.heap.NoLimit := e0.mod.nolimit.keeps fun b o e => (e0.bs b o e).1
  have kinds : ∀ y ∈ ps.zip us, (defScope st).names.lookup y.1 = some .local ∨
      ((defScope st).names.lookup y.1 = some .cell ∧ ((cellsFrom (s.heap.objs.size + 1) (defScope st).names []).lookup y.1).isSome = true) := by
    intro y hy
    cases S.par y.1 (List.of_mem_zip hy).1 with
    | inl q => exact Or.inl q
    | inr q => exact Or.inr ⟨q, PySem.W.cellsFrom_some _ _ _ (Or.inl q)⟩
  refine codeAny_call_function hr.depth (inK _ _ lk) rfl S.co S.gen rfl (PySem.W.codeRec_of inK hcd) (hb _ _ _ _ ?_)
  refine wpAny_newFunctionEnv_cells S.kind kinds fun env he s1 x => ?_
  subst he
  refine And.intro (hlim.keeps x.toInCall.keep) (codeAny_func ?_)
  obtain ⟨t, ht0, hq⟩ := body cdv A ou s H vs Q E hgd (hr.deeper _) hsp
  have ht := ht0.nox
  have J0 := inv_start (CX := CX0) S hr.hd e0 (cnt _ _ _ _ hsp) rv x (E := E)
  refine wpAny_mono (ht.run [] s1 (start N vs) H _ J0 hq) ?_ (fun e s' hs => hs)
  intro fl s' hs
  cases fl with
  | ret u =>
    obtain ⟨v, σ', H', J, r1, q⟩ := hs
    exact ⟨v, H', J.os, J.bare, J.base, J.hok, r1, q⟩
  | next =>
    obtain ⟨σ', H', J, q⟩ := hs
    exact ⟨V.non, H', J.os, J.bare, J.base, J.hok, rfl, q⟩
  | brk => exact hs.choose_spec.choose_spec.2.elim
  | cont => exact hs.choose_spec.choose_spec.2.elim
end

section
variable {X : Cx} {k : Nat} {f : Addr} {fd : FuncData} {ps ks : List Str} {sp : Sp} {dvs : List V} {ds : List Value} {E : XK} {x : Str} {p pos : Pos} {e : Expr} {es : List Expr} {t : TA}
/-- f(e, ..) of such a def -/
theorem pe_callGd (F : FnG X.prog X.w X.K X.mg X.base k f fd ps sp) (hgd : X.A.guards = some []) (hr : Room k X.A) (hg : Gl X x) (hm : X.mg x = some (.ref f)) (hk : PySem.W.keepIn X.K (.ref f) = true)
    (hb : Binds X.K fd ps []) (ha : PA X (e :: es) t) (hdb : (x == ("__debug__" : Str)) = false := by decide)
    (he : starEach (e :: es) X.env = (false, eval e X.env) :: starEach es X.env := by rfl) (hpl : (backTo pos (starEach es X.env)).any (·.1) = false := by rfl) :
    PE X (.Call (.Name x p) (e :: es) [] pos) (fun σ H Q => t σ H fun vs H1 => sp vs H1 Q E) := by
  refine ⟨fun pins s σ H Q I h => wpAny_Call_Name_kw (ld_glob I hg hm ?_ hdb)⟩
  refine PySem.W.callWith_K (h₀ := X.base) I.ok.mod.kin hk (thn (ha.run pos pins s σ H _ I h) ?_) he hpl
  intro us s1 hus
  obtain ⟨vs, H1, I1, r, q⟩ := hus
  refine ⟨I1.kIn, ?_⟩
  have hl : (us ++ []).length = ps.length := by rw [List.append_nil, ← r.length]; exact F.cnt _ _ _ _ q
  have hbt := hb s1 us I1.kIn hl
  rw [List.append_nil] at hbt
  refine wpAny_call (codeAny_mono (F.go X.A X.stack s1 H1 ⟨us, []⟩ us vs Q E hgd hr I1.env0 hbt r q) ?_)
  intro rr s' hq
  cases rr with
  | error ev => exact hq.elim
  | ok fl =>
    cases fl with
    | ret u => exact I1.after hq
    | next => exact hq.elim
    | brk => exact hq.elim
    | cont => exact hq.elim

/-- repr of a list or a tuple of plain data -/
def rRepr (K : PySem.W.Frag) : List V → Hp → VK → Prop := fun xs H Q => ∃ (a : Addr) (d : PyData), xs = [.ref a] ∧ Dp K H (.ref a) d ∧ d.showable = true ∧ d.hasDict = false ∧ d.depth ≤ 60 ∧
  d.shown.length ≤ sizeLine ∧ Q (.str d.shown) H
theorem call_reprD (hgd : X.A.guards = some []) (hu : X.A.units + 64 < cLine) : CallR X (.builtin "repr") (rRepr X.K) := by
  intro pins s σ H xs us Q I r h
  obtain ⟨a, d, rfl, hd, hs, hnd, hdp, hz, q⟩ := h
  obtain ⟨u, rfl, ru⟩ := vals1 r
  obtain rfl : u = Value.ref a := ru
  obtain ⟨as, r1⟩ := Dp.reads I d (.ref a) (.ref a) hd rfl
  refine repr_of_reads' r1 hs (fun z => by rw [hnd] at z; cases z) hgd (by omega) (fun _ _ e => e) (fun h' tu tk hk => ?_) hz
  refine ⟨.str d.shown, H, ?_, ⟨tu, rfl⟩, q⟩
  exact I.kept (t' := tk) hk
/-- x * n of a text -/
def rMulS : R2 := fun x y H Q => ∃ (z : Str) (n : Int), x = .str z ∧ y = .int n ∧ 0 ≤ n ∧ n < 2 ^ 30 ∧ z.length * n.toNat ≤ 1000000 ∧ Q (.str (Txt.mul z n)) H
end
end G1
/-! the end of a row whose law calls repr -/
namespace G1
open PySem PySem.Spec PyProof.Rows L2

theorem enterG {P : Program} {w : World} {K : PySem.W.Frag} {mg mb : Str → Option Value} {k : Nat} {fa a : Addr} {fd : FuncData} {x : Str} {sp : Sp} {s₁ : Shared} {vs : List Value} {ns : List Int}
    (inK : K.In s₁.heap) (hns : s₁.heap.Ns mainGlobals mg) (hbn : s₁.heap.Ns builtinsNs mb) (hbb : ∀ x : Str, x ≠ "__name__" → mb x = bootBuiltins x) (hlim : s₁.heap.NoLimit) (hg0 : s₁.gens = #[])
    (ha : s₁.heap.get? a = some { cls := .type "list", data := .seq vs.toArray }) (hi : IntsAre vs ns) (hl : ns.length ≤ sizeLine) (hr : Room k callerA)
    (F : ∀ base : Heap, K.In base → base.Ns mainGlobals mg → FnG P w K mg base k fa fd [x] sp)
    (hbind : ∀ (s : Shared) (u : Value), BindsTo s fd ⟨[u], []⟩ [(x, u)])
    (hsp : ∀ H : Hp, Only H → SqL K H a (ns.map V.int) → sp [.ref a] H (fun v _ => v = .bl true) fun _ _ _ => False) :
    codeAny (model P w) callerA (.call (.ref fa) ⟨[.ref a], []⟩)
      (fun r s' => r = .ok (.ret (.bool true)) ∧ OldK s₁.heap s'.heap ∧ s'.os = s₁.os ∧ AllBare s'.gens) s₁ := by
  have rv := vals_ints hi
  have lv := hi.length
  suffices core : ∀ H : Hp, Only H → SqL K H a (ns.map V.int) → HOk P w H s₁.heap → (∀ b, H b ≠ none → b = a ∧ K.lookup a = none) →
      codeAny (model P w) callerA (.call (.ref fa) ⟨[.ref a], []⟩)
        (fun r s' => r = .ok (.ret (.bool true)) ∧ OldK s₁.heap s'.heap ∧ s'.os = s₁.os ∧ AllBare s'.gens) s₁ by
    by_cases hk : K.lookup a = none
    · refine core (fun b => if b = a then some (.frz { cls := .type "list", data := .seq vs.toArray } (.lst (ns.map V.int))) else none) ?_ (Or.inl (Or.inr ⟨_, if_pos rfl⟩)) ?_ ?_
      · intro b
        by_cases hb : b = a
        · exact Or.inr ⟨_, _, if_pos hb⟩
        · exact Or.inl (if_neg hb)
      · intro b u z
        dsimp only at z
        by_cases hb : b = a
        · rw [if_pos hb] at z
          cases z
          subst hb
          exact ⟨ha, by rw [List.length_map]; exact hl, vs, _, rv, ha⟩
        · rw [if_neg hb] at z
          cases z
      · intro b z
        by_cases hb : b = a
        · exact ⟨hb, hk⟩
        · exact absurd (if_neg hb) z
    · obtain ⟨o, ho⟩ := Option.ne_none_iff_exists'.mp hk
      have e := inK a o ho
      rw [ha] at e
      cases e
      exact core (fun _ => none) (fun _ => Or.inl rfl) (Or.inr ⟨_, vs.toArray, _, ho, rfl, rfl, rfl, by rw [List.size_toArray, lv]; exact hl, by simpa using rv⟩)
        (fun b u z => by cases z) (fun b z => absurd rfl z)
  intro H hO hS hok hA
  have untr : ∀ {b : Addr} {o : Obj} {es : Array DictEntry} {ep : Nat}, s₁.heap.get? b = some o → o.data = .dict es ep → H b = none := by
    intro b o es ep e d
    by_cases q : H b = none
    · exact q
    · obtain ⟨rfl, _⟩ := hA b q
      rw [ha] at e
      cases e
      exact nomatch d
  have tohid : ∀ {b : Addr} {m : Str → Option Value}, s₁.heap.Ns b m → (hidT s₁.heap H).Ns b m := by
    rintro b m ⟨o, es, ep, e, d, r⟩
    exact ⟨o, es, ep, hidT_get e (untr e d), d, r⟩
  have hKb : K.In (hidT s₁.heap H) := by
    intro b o e
    refine hidT_get (inK b o e) ?_
    by_cases q : H b = none
    · exact q
    · obtain ⟨rfl, z⟩ := hA b q
      rw [z] at e
      cases e
  obtain ⟨mc, l1, l2⟩ := hlim
  have hM : Mod K mg (hidT s₁.heap H) := ⟨hKb, tohid hns, ⟨mb, tohid hbn, hbb⟩, ⟨mc, tohid l1, l2⟩⟩
  have e0 : Env0 P w K mg (hidT s₁.heap H) callerA [] s₁ H :=
    ⟨rfl, hM, fun b o e => of_hidT e, Nat.le_of_eq (hidT_size _ _), trivial, fun b hb => (List.not_mem_nil hb).elim, hok, .of_eq hg0⟩
  refine codeAny_mono ((F _ hKb (tohid hns)).go callerA [] s₁ H ⟨[.ref a], []⟩ [.ref a] [.ref a] _ _ rfl hr e0 (hbind s₁ (.ref a)) (.cons rfl .nil) (hsp H hO hS)) ?_
  intro r s' h
  cases r with
  | error e => exact h.elim
  | ok fl =>
    cases fl with
    | next => exact h.elim
    | brk => exact h.elim
    | cont => exact h.elim
    | ret u =>
      obtain ⟨v, H', os, bare, un, hok', r', q⟩ := h
      subst q
      obtain rfl : u = Value.bool true := r'
      refine ⟨rfl, OldK.of_keep (fun b o e => ?_), os, bare⟩
      rcases hO b with z | ⟨ob, xs, z⟩
      · exact un.keep b o e z (fun y => (List.not_mem_nil y).elim) List.not_mem_nil
      · obtain ⟨e1, _⟩ := hok b _ z
        obtain ⟨e2, _⟩ := hok' b _ (un.frzs b ob _ z)
        rw [e] at e1
        cases e1
        exact e2

theorem walkG {l : PySem.W.OpenLaw} {n k : Nat} {q : Program} {loose : List Str} {XP : (Str → Option Value) → Heap → Prop} {YP : World → Heap → Prop} {d : DefRec} {K : Params → PySem.W.Frag} {sp : PySem.W.Frag → Sp} {x : Str}
    (hn : l.most = some n) (hn2 : n ≤ sizeLine) (hdf : d.params.defaults = []) (hr : Room k callerA)
    (hY : ∀ (w : World) (h : Heap), YP w h → (K w.params).In h)
    (F : ∀ (w : World) (mg : Str → Option Value) (fa : Addr) (h : Heap), (K w.params).In h → h.Ns mainGlobals mg → mg d.name = some (.ref fa) →
      ∃ fd : FuncData, (∀ (s : Shared) (u : Value), BindsTo s fd ⟨[u], []⟩ [(x, u)]) ∧
        ∀ base : Heap, (K w.params).In base → base.Ns mainGlobals mg → FnG l.prog w (K w.params) mg base k fa fd [x] (sp (K w.params)))
    (hsp : ∀ (K : PySem.W.Frag) (H : Hp) (a : Addr) (ns : List Int), ns.length ≤ n → Only H → SqL K H a (ns.map V.int) → sp K [.ref a] H (fun v _ => v = .bl true) fun _ _ _ => False) :
    PySem.W.WalkO q loose XP YP l.row.toRowW d [] (fun f vs => PySem.call f vs) := by
  refine Att.attach_call hn hdf ?_
  intro w s₀ s₁ mg mb fa o pm cd doc a vs ns G Y ho hd hcd hmg hobj hints hlen hg0
  have inK := hY w _ Y
  obtain ⟨fd, hb, hF⟩ := F w mg fa _ inK G.T.g hmg
  exact enterG inK G.T.g G.T.b G.T.builtins G.T.nolimit hg0 hobj hints (Nat.le_trans hlen hn2) hr hF hb (fun H hO hS => hsp _ H a ns hlen hO hS)
end G1
/-! texts of the signs 0 and 1, as lists of bools -/
namespace G1
open PySem PySem.Spec PyProof.Rows L2

def cB (b : Bool) : Nat := if b then 49 else 48
def B (l : List Bool) : Str := SX.S (l.map cB)
theorem cB_inj {a b : Bool} (h : cB a = cB b) : a = b := by
  cases a <;> cases b <;> first | rfl | (exact absurd h (by decide))
theorem map_cB_inj : ∀ {l m : List Bool}, l.map cB = m.map cB → l = m
  | [], [], _ => rfl
  | [], _ :: _, h => by cases h
  | _ :: _, [], h => by cases h
  | a :: l, b :: m, h => by
    rw [List.map_cons, List.map_cons] at h
    injection h with h1 h2
    rw [cB_inj h1, map_cB_inj h2]
theorem B_inj {l m : List Bool} (h : B l = B m) : l = m := map_cB_inj (SX.S_inj h)
theorem B_dec (l m : List Bool) : decide (V.str (B l) = V.str (B m)) = decide (l = m) := by
  by_cases h : l = m
  · rw [h, decide_eq_true rfl, decide_eq_true rfl]
  · rw [decide_eq_false h, decide_eq_false fun e => h (B_inj (V.str.inj e))]
theorem B_len (l : List Bool) : (B l).length = l.length := by
  unfold B
  rw [SX.S_len, List.length_map]
theorem B_cps (l : List Bool) : (B l).cps.toList = l.map cB := rfl
theorem B_app (l m : List Bool) : B l ++ B m = B (l ++ m) := by
  unfold B
  rw [SX.S_cat, List.map_append]
theorem B_nil : ("" : Str) = B [] := by decide +kernel
theorem B_0 : ("0" : Str) = B [false] := by decide +kernel
theorem B_1 : ("1" : Str) = B [true] := by decide +kernel
theorem B_one (b : Bool) : (⟨#[cB b]⟩ : Str) = B [b] := by cases b <;> decide +kernel
theorem B_str0 : (Str.ofString (toString (0 : Int))) = B [false] := by decide +kernel
theorem B_str1 : (Str.ofString (toString (1 : Int))) = B [true] := by decide +kernel
theorem B_str (i : Int) (h0 : 0 ≤ i) (h2 : i < 2) : (Str.ofString (toString i)) = B [decide (i = 1)] := by
  have h : i = 0 ∨ i = 1 := by omega
  rcases h with rfl | rfl
  · exact B_str0
  · exact B_str1

/-! ### slices -/
theorem B_cut (l : List Bool) (lo hi : Option Int) : cutS (B l) lo hi = B ((l.drop (HT.sIx l.length 0 lo)).take (HT.sIx l.length l.length hi - HT.sIx l.length 0 lo)) := by
  unfold cutS B
  rw [SX.S_len, List.length_map, ← List.map_drop, ← List.map_take]
theorem sIx_of (n d : Nat) {i : Int} (h : 0 ≤ i) : HT.sIx n d (some i) = min i.toNat n := by
  show (if i < 0 then (i + (n : Int)).toNat else min i.toNat n) = _
  rw [if_neg (by omega)]
theorem B_to (l : List Bool) {j : Int} (h : 0 ≤ j) : cutS (B l) none (some j) = B (l.take j.toNat) := by
  rw [B_cut, sIx_of _ _ h]
  show B ((l.drop 0).take (min j.toNat l.length - 0)) = _
  rw [List.drop_zero, Nat.sub_zero, ← List.take_eq_take_min]
theorem B_from (l : List Bool) {i : Int} (h : 0 ≤ i) : cutS (B l) (some i) none = B (l.drop i.toNat) := by
  rw [B_cut, sIx_of _ _ h]
  show B ((l.drop (min i.toNat l.length)).take (l.length - min i.toNat l.length)) = _
  rw [List.take_of_length_le (by rw [List.length_drop]; omega)]
  by_cases hi : i.toNat ≤ l.length
  · rw [Nat.min_eq_left hi]
  · rw [Nat.min_eq_right (by omega), List.drop_length, List.drop_of_length_le (by omega)]
theorem B_mid (l : List Bool) {i j : Int} (h : 0 ≤ i) (hj : 0 ≤ j) : cutS (B l) (some i) (some j) = B ((l.take j.toNat).drop i.toNat) := by
  rw [B_cut, sIx_of _ _ h, sIx_of _ _ hj]
  congr 1
  apply List.ext_getElem?
  intro k
  rw [List.getElem?_take, List.getElem?_drop, List.getElem?_drop, List.getElem?_take]
  by_cases hi : i.toNat ≤ l.length
  · rw [Nat.min_eq_left hi]
    by_cases hj2 : j.toNat ≤ l.length
    · rw [Nat.min_eq_left hj2]
      by_cases h3 : k < j.toNat - i.toNat
      · rw [if_pos h3, if_pos (by omega)]
      · rw [if_neg h3, if_neg (by omega)]
    · rw [Nat.min_eq_right (by omega)]
      by_cases h3 : k < l.length - i.toNat
      · rw [if_pos h3, if_pos (by omega)]
      · rw [if_neg h3]
        split
        · exact (List.getElem?_eq_none (by omega)).symm
        · rfl
  · have hm : min i.toNat l.length = l.length := Nat.min_eq_right (Nat.le_of_lt (Nat.lt_of_not_le hi))
    rw [hm, List.getElem?_eq_none (by omega), List.getElem?_eq_none (by omega)]
    split <;> split <;> rfl

/-! ### signs -/
theorem B_at (l : List Bool) {i : Int} {k : Nat} {b : Bool} (hi : i = (k : Int)) (h : l[k]? = some b) : atI (B l).cps.toList i = some (cB b) := by
  subst hi
  refine atI_nat ?_
  rw [B_cps, List.getElem?_map, h]
  rfl
theorem B_atNeg (l : List Bool) {i : Int} {k : Nat} {b : Bool} (hi : i = -1 - (k : Int)) (hk : k < l.length) (h : l[l.length - 1 - k]? = some b) : atI (B l).cps.toList i = some (cB b) := by
  unfold atI ixN
  have e1 : (B l).cps.toList.length = l.length := by rw [B_cps, List.length_map]
  rw [e1, if_neg (by omega), if_pos (by omega)]
  show (B l).cps.toList[(i + (l.length : Int)).toNat]? = _
  rw [show (i + (l.length : Int)).toNat = l.length - 1 - k by omega, B_cps, List.getElem?_map, h]
  rfl

/-! ### many times -/
def rep (n : Nat) (l : List Bool) : List Bool := (List.replicate n l).flatten
theorem rep_zero (l : List Bool) : rep 0 l = [] := rfl
theorem rep_succ (n : Nat) (l : List Bool) : rep (n + 1) l = l ++ rep n l := by
  unfold rep
  rw [List.replicate_succ, List.flatten_cons]
theorem rep_length (n : Nat) (l : List Bool) : (rep n l).length = n * l.length := by
  induction n with
  | zero => rw [rep_zero, Nat.zero_mul]; rfl
  | succ n ih => rw [rep_succ, List.length_append, ih, Nat.succ_mul, Nat.add_comm]
theorem rep_get (n : Nat) (l : List Bool) (i : Nat) (h : i < n * l.length) : (rep n l)[i]? = l[i % l.length]? := by
  induction n generalizing i with
  | zero => rw [Nat.zero_mul] at h; omega
  | succ n ih =>
    rw [rep_succ]
    by_cases hi : i < l.length
    · rw [List.getElem?_append_left hi, Nat.mod_eq_of_lt hi]
    · have h1 : l.length ≤ i := by omega
      rw [List.getElem?_append_right h1, ih (i - l.length) (by rw [Nat.succ_mul] at h; omega), ← Nat.mod_eq_sub_mod h1]
theorem foldl_app (c : Array Nat) : ∀ (n : Nat) (acc : Array Nat), ((List.replicate n c).foldl (· ++ ·) acc).toList = acc.toList ++ (List.replicate n c.toList).flatten
  | 0, acc => by simp
  | n + 1, acc => by
    rw [List.replicate_succ, List.foldl_cons, foldl_app c n, List.replicate_succ, List.flatten_cons, Array.toList_append, List.append_assoc]
theorem map_rep (n : Nat) (l : List Bool) : (rep n l).map cB = (List.replicate n (l.map cB)).flatten := by
  induction n with
  | zero => rfl
  | succ n ih => rw [rep_succ, List.map_append, ih, List.replicate_succ, List.flatten_cons]
theorem B_mul (l : List Bool) {n : Int} (h : 0 ≤ n) : Txt.mul (B l) n = B (rep n.toNat l) := by
  unfold Txt.mul
  by_cases h1 : n < 1
  · rw [if_pos h1, show n.toNat = 0 by omega, rep_zero]
    rfl
  · rw [if_neg h1]
    by_cases h2 : (n == 1 || (B l).length == 0) = true
    · rw [if_pos h2]
      rw [Bool.or_eq_true, beq_iff_eq, beq_iff_eq, B_len] at h2
      rcases h2 with h2 | h2
      · subst h2
        show B l = B (rep 1 l)
        rw [rep_succ, rep_zero, List.append_nil]
      · rw [List.length_eq_zero_iff] at h2
        subst h2
        congr 1
        have := rep_length n.toNat []
        rw [List.length_nil, Nat.mul_zero, List.length_eq_zero_iff] at this
        exact this.symm
    · rw [if_neg h2]
      unfold B
      rw [map_rep]
      refine TL.ext_tl ?_
      show (List.foldl (· ++ ·) #[] (List.replicate n.toNat (SX.S (l.map cB)).cps)).toList = _
      rw [foldl_app]
      simp [TL.tl]

/-! ### joined -/
theorem join_nil (ls : List (List Bool)) : Txt.join (B []) (ls.map B) = B ls.flatten := by
  have e : ls.map B = (ls.map (List.map cB)).map SX.S := by rw [List.map_map]; rfl
  rw [e]
  show Txt.join (SX.S []) _ = _
  rw [SX.join_S]
  unfold B
  congr 1
  have key : ∀ ms : List (List Nat), TL.joinL [] ms = ms.flatten := by
    intro ms
    induction ms with
    | nil => rfl
    | cons m ms ih =>
      cases ms with
      | nil => simp [TL.joinL]
      | cons k ks =>
        rw [List.flatten_cons, ← ih]
        simp [TL.joinL]
  rw [key, ← List.map_flatten]
end G1
namespace G1
open PySem PySem.Spec PyProof.Rows L2
section
variable {X : Cx}
theorem tooLong_no {n : Nat} (h : n ≤ 1000000) : Builtin.Str.tooLong n = false := by
  unfold Builtin.Str.tooLong
  rw [decide_eq_false_iff_not]
  exact Nat.not_lt.mpr (Nat.le_trans h (by decide))
theorem op_mulS : OpR X (binaryOp .Mult) rMulS := by
  intro pins s σ H x y v u Q I rx ry h
  obtain ⟨z, n, rfl, rfl, h0, h1, h2, q⟩ := h
  obtain ⟨t, rfl⟩ := rx
  obtain ⟨t2, rfl⟩ := ry
  have hb : z.length = 0 ∨ n.toNat = 0 ∨ (z.length ≤ 1000000) := by
    rcases Nat.eq_zero_or_pos z.length with e | e
    · exact .inl e
    · rcases Nat.eq_zero_or_pos n.toNat with e2 | e2
      · exact .inr (.inl e2)
      · refine .inr (.inr (Nat.le_trans ?_ h2))
        exact Nat.le_mul_of_pos_right _ e2
  refine PySem.SB.mul ⟨?_, fun a b c => ?_, fun a b => tooLong_no h2⟩ fun t' k => ⟨.str (Txt.mul z n), H, I.tok _, ⟨_, rfl⟩, q⟩
  · rw [Bool.or_eq_false_iff]
    exact ⟨decide_eq_false (by omega), decide_eq_false (by omega)⟩
  · rw [Bool.or_eq_false_iff] at b
    have hz : z.length ≠ 0 := by
      have := b.2
      simpa using this
    have hz2 : (z.length : Int) ≤ 1000000 := by omega
    have h3 : (2 ^ 63 - 1 : Int) / n ≥ 1000000 := by
      apply Int.le_ediv_of_mul_le (by omega)
      omega
    omega
end
theorem szM {n : Nat} (h : n ≤ 1000000) : n ≤ sizeLine := Nat.le_trans h (by decide)
end G1
namespace G1
open PySem PySem.Spec PyProof.Rows L2
theorem B_last (l : List Bool) : cutS (B l) (some (-1)) none = B (l.drop (l.length - 1)) := by
  rw [B_cut]
  have e : HT.sIx l.length 0 (some (-1)) = l.length - 1 := by
    show (if (-1 : Int) < 0 then (-1 + (l.length : Int)).toNat else min (-1 : Int).toNat l.length) = _
    rw [if_pos (by decide)]
    omega
  rw [e]
  show B ((l.drop (l.length - 1)).take (l.length - (l.length - 1))) = _
  rw [List.take_of_length_le (by rw [List.length_drop]; omega)]
theorem B_init (l : List Bool) : cutS (B l) none (some (-1)) = B (l.take (l.length - 1)) := by
  rw [B_cut]
  have e : HT.sIx l.length l.length (some (-1)) = l.length - 1 := by
    show (if (-1 : Int) < 0 then (-1 + (l.length : Int)).toNat else min (-1 : Int).toNat l.length) = _
    rw [if_pos (by decide)]
    omega
  rw [e]
  show B ((l.drop 0).take (l.length - 1 - 0)) = _
  rw [List.drop_zero, Nat.sub_zero]
end G1
/-! calls by keywords alone; repr of a truth -/
namespace G1
open PySem PySem.Spec PyProof.Rows L2
section
variable {X : Cx} {CX : CXT} {k : Nat} {f : Addr} {fd : FuncData} {ps ks : List Str} {sp : Sp} {E : XK} {x : Str} {p pos : Pos} {kws : List Keyword} {tk : TA}
variable {g : List Value → List Value → List Value} {gV : List V → List V → List V}
/-- f(k = v, ..) -/
theorem pe_callK0 (F : FnOk X.prog X.w X.K X.mg X.base CX k f fd ps sp) (hr : Room k X.A) (hg : Gl X x) (hm : X.mg x = some (.ref f)) (hk : PySem.W.keepIn X.K (.ref f) = true) (hb : KBinds X.K fd ps ks g gV) (hx : Passes CX X E)
    (hkw : PK X kws tk) (hall : (backToKw pos (keywordEach kws X.env)).all (·.1.isSome) = true := by rfl) (hks : (backToKw pos (keywordEach kws X.env)).filterMap (·.1) = ks := by rfl)
    (hdb : (x == ("__debug__" : Str)) = false := by decide)
    (hpl : ((backTo pos (starEach [] X.env)).any (·.1) || (backToKw pos (keywordEach kws X.env)).any (·.1.isNone)) = false := by rfl) :
    PE X (.Call (.Name x p) [] kws pos) (fun σ H Q => tk σ H fun zs H1 => sp (gV [] zs) H1 Q E) := by
  refine ⟨fun pins s σ H Q I h => wpAny_Call_Name_kw (ld_glob I hg hm ?_ hdb)⟩
  refine PySem.W.callWith_KW0 (h₀ := X.base) I.ok.mod.kin hk hall (thn (hkw.run pos pins s σ H _ I h) ?_) hpl
  intro ws s2 hws
  obtain ⟨zs, H2, I2, rz, q2⟩ := hws
  refine ⟨I2.kIn, ?_⟩
  rw [hks]
  exact run_fnk (us := []) (vs := []) F hr hb hx I2 .nil rz q2
end
/-- two keywords, the second parameter's first -/
def swapW {α : Type} : List α → List α → List α
  | [], a :: b :: _ => [b, a]
  | _, _ => []
theorem kbinds_swap {K : PySem.W.Frag} {fd : FuncData} {p0 p1 : Str}
    (h : ∀ a b : Value, bindArgs fd ⟨[], [(p1, a), (p0, b)]⟩ = pure [(p0, b), (p1, a)]) : KBinds K fd [p0, p1] [p1, p0] swapW swapW := by
  refine ⟨fun s us ws _ hl => ?_, fun {vs us zs ws} r1 r2 => ?_⟩
  · cases us with
    | cons u us => cases hl
    | nil =>
      cases ws with
      | nil => cases hl
      | cons a ws =>
        cases ws with
        | nil => cases hl
        | cons b ws => exact .of_eq (h a b)
  · cases r1 with
    | cons q t => exact .nil
    | nil =>
      cases r2 with
      | nil => exact .nil
      | cons q1 t1 =>
        cases t1 with
        | nil => exact .nil
        | cons q2 t2 => exact .cons q2 (.cons q1 .nil)
section
variable {X : Cx}
theorem call_reprB : CallR X (.builtin "repr") (fun xs H Q => ∃ b : Bool, xs = [.bl b] ∧ Q (.str (if b then "True" else "False")) H) := by
  intro pins s σ H xs us Q I r h
  obtain ⟨b, rfl, q⟩ := h
  obtain ⟨u, rfl, ru⟩ := vals1 r
  obtain rfl : u = Value.bool b := ru
  exact PySem.P.repr_of_bool ⟨.str _, H, I.tok _, ⟨_, rfl⟩, q⟩
end
end G1
namespace G1
open PySem PySem.Spec PyProof.Rows L2
/-- one keyword -/
def oneW {α : Type} : List α → List α → List α
  | [], a :: _ => [a]
  | _, _ => []
theorem kbinds_one {K : PySem.W.Frag} {fd : FuncData} {p0 : Str} (h : ∀ a : Value, bindArgs fd ⟨[], [(p0, a)]⟩ = pure [(p0, a)]) : KBinds K fd [p0] [p0] oneW oneW := by
  refine ⟨fun s us ws _ hl => ?_, fun {vs us zs ws} r1 r2 => ?_⟩
  · cases us with
    | cons u us => cases hl
    | nil =>
      cases ws with
      | nil => cases hl
      | cons a ws => exact .of_eq (h a)
  · cases r1 with
    | cons q t => exact .nil
    | nil =>
      cases r2 with
      | nil => exact .nil
      | cons q1 t1 => exact .cons q1 .nil
/-- a value by a word: what follows is shown once -/
theorem pe_cut {X : Cx} {e : Expr} {t : TE} (h : PE X e t) : PE X e (fun σ H Q => ∃ M : V → Hp → Prop, t σ H M ∧ ∀ v H', M v H' → Q v H') := by
  refine ⟨fun pins s σ H Q I hq => ?_⟩
  obtain ⟨M, h1, h2⟩ := hq
  refine thn (h.run pins s σ H M I h1) ?_
  intro u s1 hu
  obtain ⟨v, H1, I1, r1, q1⟩ := hu
  exact ⟨v, H1, I1, r1, h2 v H1 q1⟩
end G1
namespace G1
open PySem PySem.Spec PyProof.Rows L2
theorem cB_small (b : Bool) : cB b < 16 ^ 8 := by cases b <;> decide
theorem leaf_B (l : List Bool) : PyData.leavesShort 8 (.str (B l)) = true := by
  simp only [PyData.leavesShort, List.all_eq_true, decide_eq_true_eq]
  intro c hc
  rw [B_cps] at hc
  obtain ⟨b, _, rfl⟩ := List.mem_map.mp hc
  exact cB_small b
theorem w_B (l : List Bool) : PyData.weight (.str (B l)) = l.length := by
  simp only [PyData.weight]
  exact B_len l
/-- repr of one object, read as data that is not great -/
theorem go_repr {K : PySem.W.Frag} {H : Hp} {R : PyData → Prop} {a : Addr} (d : PyData) (hd : Dp K H (.ref a) d) (h1 : d.showable = true) (h2 : d.hasDict = false) (h3 : d.depth ≤ 60) (h4 : d.leavesShort 8 = true) (h5 : d.weight ≤ 2 ^ 20) (q : R d) :
    ∃ (a' : Addr) (d' : PyData), [V.ref a] = [V.ref a'] ∧ Dp K H (.ref a') d' ∧ d'.showable = true ∧ d'.hasDict = false ∧ d'.depth ≤ 60 ∧ d'.shown.length ≤ sizeLine ∧ R d' :=
  ⟨a, d, rfl, hd, h1, h2, h3, PyData.shown_fits (Nat.le_refl _) (by decide) h4 h5, q⟩
theorem str_refl (z : Str) : decide (V.str z = V.str z) = true := decide_eq_true rfl
end G1
namespace G1
open PySem PySem.Spec PyProof.Rows L2
/-- the data of a table, of lists of texts and of truths -/
def dTab (h t : List Bool) : PyData := .tuple [.str (B h), .str (B t)]
theorem dp_tab {K : PySem.W.Frag} {H : Hp} {p : Addr} {h t : List Bool} (e : H p = some (.tup [.str (B h), .str (B t)])) : Dp K H (.ref p) (dTab h t) :=
  .tup (.inl (.inl e)) (.cons (.str _) (.cons (.str _) .nil))
def dStrs (ls : List (List Bool)) : PyData := .list (ls.map fun l => .str (B l))
def dBools (bs : List Bool) : PyData := .list (bs.map PyData.bool)
theorem dpAll_strs {K : PySem.W.Frag} {H : Hp} : ∀ ls : List (List Bool), DpAll K H (ls.map fun l => V.str (B l)) (ls.map fun l => .str (B l))
  | [] => .nil
  | l :: ls => .cons (.str _) (dpAll_strs ls)
theorem dpAll_bools {K : PySem.W.Frag} {H : Hp} : ∀ bs : List Bool, DpAll K H (bs.map V.bl) (bs.map PyData.bool)
  | [] => .nil
  | b :: bs => .cons (.bl _) (dpAll_bools bs)
/-- repr of a table -/
theorem repr_tab {K : PySem.W.Frag} {H : Hp} {R : PyData → Prop} {a : Addr} {h t : List Bool} (e : H a = some (.tup [.str (B h), .str (B t)])) (h1 : h.length ≤ 5000) (t1 : t.length ≤ 5000) (q : R (dTab h t)) :
    ∃ (a' : Addr) (d' : PyData), [V.ref a] = [V.ref a'] ∧ Dp K H (.ref a') d' ∧ d'.showable = true ∧ d'.hasDict = false ∧ d'.depth ≤ 60 ∧ d'.shown.length ≤ sizeLine ∧ R d' := by
  refine go_repr (dTab h t) (dp_tab e) ?_ ?_ ?_ ?_ ?_ q
  · simp [dTab, PyData.showable, PyData.showableAll]
  · simp [dTab, PyData.hasDict, PyData.hasDictAll]
  · simp [dTab, PyData.depth, PyData.depthAll]
  · simp only [dTab, PyData.leavesShort, PyData.leavesShortAll, Bool.and_eq_true]
    exact ⟨leaf_B h, leaf_B t, trivial⟩
  · simp only [dTab, PyData.weight, PyData.weightAll]
    have e1 := w_B h
    have e2 := w_B t
    simp only [PyData.weight] at e1 e2
    omega
/-- repr of three texts -/
theorem repr_s3 {K : PySem.W.Frag} {H : Hp} {R : PyData → Prop} {a : Addr} {x y z : List Bool} (e : H a = some (.lst [.str (B x), .str (B y), .str (B z)])) (h1 : x.length ≤ 100000) (h2 : y.length ≤ 100000) (h3 : z.length ≤ 100000) (q : R (dStrs [x, y, z])) :
    ∃ (a' : Addr) (d' : PyData), [V.ref a] = [V.ref a'] ∧ Dp K H (.ref a') d' ∧ d'.showable = true ∧ d'.hasDict = false ∧ d'.depth ≤ 60 ∧ d'.shown.length ≤ sizeLine ∧ R d' := by
  refine go_repr (dStrs [x, y, z]) (.lst (.inl (.inl e)) (dpAll_strs [x, y, z])) ?_ ?_ ?_ ?_ ?_ q
  · simp [dStrs, PyData.showable, PyData.showableAll]
  · simp [dStrs, PyData.hasDict, PyData.hasDictAll]
  · simp [dStrs, PyData.depth, PyData.depthAll]
  · simp only [dStrs, List.map_cons, List.map_nil, PyData.leavesShort, PyData.leavesShortAll, Bool.and_eq_true]
    exact ⟨leaf_B x, leaf_B y, leaf_B z, trivial⟩
  · simp only [dStrs, List.map_cons, List.map_nil, PyData.weight, PyData.weightAll]
    have e1 := w_B x
    have e2 := w_B y
    have e3 := w_B z
    simp only [PyData.weight] at e1 e2 e3
    omega
theorem bools_ok : ∀ bs : List Bool, PyData.showableAll (bs.map PyData.bool) = true ∧ PyData.hasDictAll (bs.map PyData.bool) = false ∧ PyData.depthAll (bs.map PyData.bool) = 0 ∧ PyData.leavesShortAll 8 (bs.map PyData.bool) = true ∧ PyData.weightAll (bs.map PyData.bool) ≤ 2 * bs.length
  | [] => by simp [PyData.showableAll, PyData.hasDictAll, PyData.depthAll, PyData.leavesShortAll, PyData.weightAll]
  | b :: bs => by
    obtain ⟨h1, h2, h3, h4, h5⟩ := bools_ok bs
    simp [PyData.showableAll, PyData.hasDictAll, PyData.depthAll, PyData.leavesShortAll, PyData.weightAll, PyData.showable, PyData.hasDict, PyData.depth, PyData.leavesShort, PyData.weight, h1, h2, h3, h4]
    omega
/-- repr of truths -/
theorem repr_bs {K : PySem.W.Frag} {H : Hp} {R : PyData → Prop} {a : Addr} (bs : List Bool) {xs : List V} (e : H a = some (.lst xs)) (ex : xs = bs.map V.bl) (hl : bs.length ≤ 1000) (q : R (dBools bs)) :
    ∃ (a' : Addr) (d' : PyData), [V.ref a] = [V.ref a'] ∧ Dp K H (.ref a') d' ∧ d'.showable = true ∧ d'.hasDict = false ∧ d'.depth ≤ 60 ∧ d'.shown.length ≤ sizeLine ∧ R d' := by
  subst ex
  obtain ⟨h1, h2, h3, h4, h5⟩ := bools_ok bs
  refine go_repr (dBools bs) (.lst (.inl (.inl e)) (dpAll_bools bs)) ?_ ?_ ?_ ?_ ?_ q
  · simp only [dBools, PyData.showable]; exact h1
  · simp only [dBools, PyData.hasDict]; exact h2
  · simp only [dBools, PyData.depth, h3]; omega
  · simp only [dBools, PyData.leavesShort]; exact h4
  · simp only [dBools, PyData.weight]; omega
end G1
namespace G1
open PySem PySem.Spec PyProof.Rows L2
def dMix (a b c : Bool) (x : List Bool) : PyData := .list [.bool a, .bool b, .bool c, .str (B x)]
theorem repr_mix {K : PySem.W.Frag} {H : Hp} {R : PyData → Prop} {p : Addr} {a b c : Bool} {x : List Bool} (e : H p = some (.lst [.bl a, .bl b, .bl c, .str (B x)])) (h1 : x.length ≤ 100000) (q : R (dMix a b c x)) :
    ∃ (a' : Addr) (d' : PyData), [V.ref p] = [V.ref a'] ∧ Dp K H (.ref a') d' ∧ d'.showable = true ∧ d'.hasDict = false ∧ d'.depth ≤ 60 ∧ d'.shown.length ≤ sizeLine ∧ R d' := by
  refine go_repr (dMix a b c x) (.lst (.inl (.inl e)) (.cons (.bl _) (.cons (.bl _) (.cons (.bl _) (.cons (.str _) .nil))))) ?_ ?_ ?_ ?_ ?_ q
  · simp [dMix, PyData.showable, PyData.showableAll]
  · simp [dMix, PyData.hasDict, PyData.hasDictAll]
  · simp [dMix, PyData.depth, PyData.depthAll]
  · simp only [dMix, PyData.leavesShort, PyData.leavesShortAll, Bool.and_eq_true]
    exact ⟨trivial, trivial, trivial, leaf_B x, trivial⟩
  · simp only [dMix, PyData.weight, PyData.weightAll]
    have e1 := w_B x
    simp only [PyData.weight] at e1
    omega
theorem L_01 : Str.ofString "01" = B [false, true] := by decide +kernel
theorem L_001 : Str.ofString "001" = B [false, false, true] := by decide +kernel
theorem L_1000 : Str.ofString "1000" = B [true, false, false, false] := by decide +kernel
end G1
namespace G1
open PySem PySem.Spec PyProof.Rows L2
/-- data that may stand in a list that is shown -/
structure Small (d : PyData) : Prop where
  sh : d.showable = true
  nd : d.hasDict = false
  dp : d.depth ≤ 20
  lv : d.leavesShort 8 = true
  wt : d.weight ≤ 20000
theorem small_bool (b : Bool) : Small (.bool b) := ⟨rfl, rfl, by simp [PyData.depth], rfl, by simp [PyData.weight]⟩
theorem small_none : Small .none := ⟨rfl, rfl, by simp [PyData.depth], rfl, by simp [PyData.weight]⟩
theorem small_B {l : List Bool} (h : l.length ≤ 20000) : Small (.str (B l)) := by
  refine ⟨rfl, rfl, by simp [PyData.depth], leaf_B l, ?_⟩
  rw [w_B]; exact h
theorem small_tab {h t : List Bool} (h1 : h.length ≤ 5000) (t1 : t.length ≤ 5000) : Small (dTab h t) := by
  refine ⟨?_, ?_, ?_, ?_, ?_⟩
  · simp [dTab, PyData.showable, PyData.showableAll]
  · simp [dTab, PyData.hasDict, PyData.hasDictAll]
  · simp [dTab, PyData.depth, PyData.depthAll]
  · simp only [dTab, PyData.leavesShort, PyData.leavesShortAll, Bool.and_eq_true]
    exact ⟨leaf_B h, leaf_B t, trivial⟩
  · simp only [dTab, PyData.weight, PyData.weightAll]
    have e1 := w_B h
    have e2 := w_B t
    simp only [PyData.weight] at e1 e2
    omega
theorem small_all : ∀ ds : List PyData, (∀ d ∈ ds, Small d) → PyData.showableAll ds = true ∧ PyData.hasDictAll ds = false ∧ PyData.depthAll ds ≤ 20 ∧ PyData.leavesShortAll 8 ds = true ∧ PyData.weightAll ds ≤ 20001 * ds.length
  | [], _ => by simp [PyData.showableAll, PyData.hasDictAll, PyData.depthAll, PyData.leavesShortAll, PyData.weightAll]
  | d :: ds, h => by
    obtain ⟨h1, h2, h3, h4, h5⟩ := small_all ds fun e he => h e (List.mem_cons_of_mem _ he)
    have s := h d List.mem_cons_self
    refine ⟨?_, ?_, ?_, ?_, ?_⟩
    · simp [PyData.showableAll, h1, s.sh]
    · simp [PyData.hasDictAll, h2, s.nd]
    · have := s.dp
      simp only [PyData.depthAll]
      omega
    · simp [PyData.leavesShortAll, h4, s.lv]
    · have := s.wt
      simp only [PyData.weightAll, List.length_cons]
      omega
/-- repr of a list of such -/
theorem repr_items {K : PySem.W.Frag} {H : Hp} {R : PyData → Prop} {a : Addr} {xs : List V} (ds : List PyData) (e : H a = some (.lst xs)) (hd : DpAll K H xs ds) (hs : ∀ d ∈ ds, Small d) (hl : ds.length ≤ 40) (q : R (.list ds)) :
    ∃ (a' : Addr) (d' : PyData), [V.ref a] = [V.ref a'] ∧ Dp K H (.ref a') d' ∧ d'.showable = true ∧ d'.hasDict = false ∧ d'.depth ≤ 60 ∧ d'.shown.length ≤ sizeLine ∧ R d' := by
  obtain ⟨h1, h2, h3, h4, h5⟩ := small_all ds hs
  refine go_repr (.list ds) (.lst (.inl (.inl e)) hd) ?_ ?_ ?_ ?_ ?_ q
  · simp only [PyData.showable]; exact h1
  · simp only [PyData.hasDict]; exact h2
  · simp only [PyData.depth]; omega
  · simp only [PyData.leavesShort]; exact h4
  · simp only [PyData.weight]
    have : 20001 * ds.length ≤ 20001 * 40 := Nat.mul_le_mul_left _ hl
    omega
theorem eqv_tab (a b c d : List Bool) : PyData.eqv (dTab a b) (dTab c d) = decide (a = c ∧ b = d) := by
  have e : ∀ x y : List Bool, (B x == B y) = decide (x = y) := fun x y => by
    by_cases h : x = y
    · subst h; simp
    · rw [decide_eq_false h]
      exact beq_eq_false_iff_ne.mpr fun z => h (B_inj z)
  have e2 : PyData.eqv (dTab a b) (dTab c d) = ((B a == B c) && ((B b == B d) && true)) := by simp only [dTab, PyData.eqv, PyData.eqvAll]
  rw [e2, e, e, Bool.and_true, Bool.decide_and]
theorem shaped_tab (h t : List Bool) : SeqAt.shaped (dTab h t) = true := by
  have l : ∀ x : List Bool, PyData.canLay0 (.str (B x)) = true := fun x => by
    simp only [PyData.canLay0, PyData.strOk]
    rw [Array.all_eq_true_iff_forall_mem]
    intro c hc
    have hc2 : c ∈ (B x).cps.toList := Array.mem_toList_iff.mpr hc
    rw [B_cps] at hc2
    obtain ⟨b, _, rfl⟩ := List.mem_map.mp hc2
    cases b <;> decide
  show (PyData.canLay0 (dTab h t) && decide (PyData.depth (dTab h t) ≤ 64)) = true
  rw [Bool.and_eq_true]
  refine ⟨?_, decide_eq_true ?_⟩
  · simp only [dTab, PyData.canLay0, PyData.canLayAll0, Bool.and_eq_true]
    exact ⟨l h, l t, trivial⟩
  · simp [dTab, PyData.depth, PyData.depthAll]
end G1
/-! what draws come from: a list of two lists and a count, changed by each draw; all else stands -/
namespace G1
open PySem PySem.Spec PyProof.Rows L2

/-- the well at w, its great cells at g -/
def WellAt (w g : Addr) (H : Hp) : Prop := ∃ (c : Addr) (gs cs : List Int) (k : Int), w ≠ g ∧ c ≠ g ∧ c ≠ w ∧ H w = some (.lst [.ref g, .ref c, .int k]) ∧
  H g = some (.lst (gs.map V.int)) ∧ H c = some (.lst (cs.map V.int)) ∧ 0 < cs.length ∧ gs.length ≤ 1000 ∧ cs.length ≤ 1000
/-- H' is as H but for the well -/
def Go (w g : Addr) (H H' : Hp) : Prop := ∀ a o, a ≠ w → a ≠ g → H a = some o → H' a = some o
theorem Go.refl {w g : Addr} {H : Hp} : Go w g H H := fun _ _ _ _ h => h
theorem Go.trans {w g : Addr} {H H1 H2 : Hp} (a : Go w g H H1) (b : Go w g H1 H2) : Go w g H H2 := fun x o h1 h2 h => b x o h1 h2 (a x o h1 h2 h)
theorem Go.of {w g : Addr} {H H' : Hp} (h : Same H H') : Go w g H H' := fun x o _ _ e => h x o e
/-- o stands at a, apart from the well -/
structure At (w g : Addr) (H : Hp) (a : Addr) (o : HO) : Prop where
  nw : a ≠ w
  ng : a ≠ g
  at_ : H a = some o
theorem At.go {w g : Addr} {H H' : Hp} {a : Addr} {o : HO} (x : At w g H a o) (s : Go w g H H') : At w g H' a o := ⟨x.nw, x.ng, s a o x.nw x.ng x.at_⟩
theorem same_new {H : Hp} {p : Addr} {o : HO} (h : H p = none) : Same H (upd H p o) := fun b x e => by
  rw [upd_ne (ne_of_none e h)]
  exact e
theorem Same.rfl' {H : Hp} : Same H H := fun _ _ h => h
theorem WellAt.same {w g : Addr} {H H' : Hp} (W : WellAt w g H) (s : Same H H') : WellAt w g H' := by
  obtain ⟨c, gs, cs, k, h1, h2, h3, h4, h5, h6, h7⟩ := W
  exact ⟨c, gs, cs, k, h1, h2, h3, s _ _ h4, s _ _ h5, s _ _ h6, h7⟩
theorem WellAt.fresh {w g p : Addr} {H : Hp} (W : WellAt w g H) (h : H p = none) : p ≠ w ∧ p ≠ g := by
  obtain ⟨c, gs, cs, k, h1, h2, h3, h4, h5, h6, h7⟩ := W
  exact ⟨(ne_of_none h4 h).symm, (ne_of_none h5 h).symm⟩
/-- a new object beside the well -/
theorem new_w {w g : Addr} {H : Hp} {o : HO} {Q : VK} (W : WellAt w g H)
    (h : ∀ p H', H p = none → Same H H' → WellAt w g H' → At w g H' p o → Q (.ref p) H') : ∀ p, H p = none → Q (.ref p) (upd H p o) := fun p hp =>
  h p _ hp (same_new hp) (W.same (same_new hp)) ⟨(W.fresh hp).1, (W.fresh hp).2, upd_same⟩
/-- a new object -/
theorem new_s {H : Hp} {o : HO} {Q : VK} (h : ∀ p H', H p = none → Same H H' → H' p = some o → Q (.ref p) H') : ∀ p, H p = none → Q (.ref p) (upd H p o) :=
  fun p hp => h p _ hp (same_new hp) upd_same
theorem new_of {w g p : Addr} {H H' : Hp} {o : HO} (W : WellAt w g H) (hp : H p = none) (e : upd H p o = H') : Same H H' ∧ WellAt w g H' ∧ At w g H' p o := by
  subst e
  exact ⟨same_new hp, W.same (same_new hp), (W.fresh hp).1, (W.fresh hp).2, upd_same⟩
theorem new_of0 {p : Addr} {H H' : Hp} {o : HO} (hp : H p = none) (e : upd H p o = H') : Same H H' ∧ H' p = some o := by
  subst e
  exact ⟨same_new hp, upd_same⟩
theorem same_mut {H H1 : Hp} {D : Addr} {o : HO} (s : Same H H1) (h : H D = none) : Same H (upd H1 D o) := fun b x e => by
  rw [upd_ne (ne_of_none e h)]
  exact s _ _ e
theorem szl {n : Nat} (h : n ≤ 1000) : n ≤ sizeLine := Nat.le_trans h (by decide)
theorem At.sqL {K : PySem.W.Frag} {w g : Addr} {H : Hp} {a : Addr} {xs : List V} (x : At w g H a (.lst xs)) : SqL K H a xs := .inl (.inl x.at_)
theorem At.sqT {K : PySem.W.Frag} {w g : Addr} {H : Hp} {a : Addr} {xs : List V} (x : At w g H a (.tup xs)) : SqT K H a xs := .inl (.inl x.at_)
theorem sqL_of {K : PySem.W.Frag} {H : Hp} {a : Addr} {xs : List V} (h : H a = some (.lst xs)) : SqL K H a xs := .inl (.inl h)
theorem sqT_of {K : PySem.W.Frag} {H : Hp} {a : Addr} {xs : List V} (h : H a = some (.tup xs)) : SqT K H a xs := .inl (.inl h)
/-- a tuple stands apart from the well -/
theorem WellAt.tup {w g a : Addr} {H : Hp} {xs : List V} (W : WellAt w g H) (h : H a = some (.tup xs)) : At w g H a (.tup xs) := by
  obtain ⟨c, gs, cs, k, h1, h2, h3, h4, h5, h6, h7⟩ := W
  exact ⟨ne_of h h4 (by intro z; cases z), ne_of h h5 (by intro z; cases z), h⟩
end G1
namespace G1
open PySem PySem.Spec PyProof.Rows L2
theorem ifT {A B : Prop} (h : A) : if true = true then A else B := by rw [if_pos rfl]; exact h
theorem ifF {A B : Prop} (h : B) : if false = true then A else B := by rw [if_neg Bool.false_ne_true]; exact h
theorem ifD {c : Prop} [Decidable c] {A B : Prop} (h1 : c → A) (h2 : ¬ c → B) : if decide c = true then A else B := by
  by_cases h : c
  · rw [decide_eq_true h]
    exact ifT (h1 h)
  · rw [decide_eq_false h]
    exact ifF (h2 h)
theorem ifDn {c : Prop} [Decidable c] {A B : Prop} (h1 : ¬ c → A) (h2 : c → B) : if (!decide c) = true then A else B := by
  by_cases h : c
  · rw [decide_eq_true h]
    exact ifF (h2 h)
  · rw [decide_eq_false h]
    exact ifT (h1 h)
theorem ifB {b : Bool} {A B : Prop} (h1 : b = true → A) (h2 : b = false → B) : if b = true then A else B := by
  cases b with
  | true => exact ifT (h1 rfl)
  | false => exact ifF (h2 rfl)
end G1
namespace G1
open PySem PySem.Spec PyProof.Rows L2
theorem dpAll_ints {K : PySem.W.Frag} {H : Hp} : ∀ ns : List Int, DpAll K H (ns.map V.int) (ns.map PyData.int)
  | [] => .nil
  | n :: ns => .cons (.int n) (dpAll_ints ns)
theorem lay_ints : ∀ ns : List Int, PyData.canLayAll0 (ns.map PyData.int) = true
  | [] => by simp [PyData.canLayAll0]
  | n :: ns => by simp [PyData.canLayAll0, PyData.canLay0, lay_ints ns]
theorem depth_ints : ∀ ns : List Int, PyData.depthAll (ns.map PyData.int) = 0
  | [] => by simp [PyData.depthAll]
  | n :: ns => by simp [PyData.depthAll, PyData.depth, depth_ints ns]
theorem shaped_ints (ns : List Int) : SeqAt.shaped (.list (ns.map PyData.int)) = true := by
  show (PyData.canLay0 (.list (ns.map PyData.int)) && decide (PyData.depth (.list (ns.map PyData.int)) ≤ 64)) = true
  rw [Bool.and_eq_true]
  refine ⟨by simp only [PyData.canLay0]; exact lay_ints ns, decide_eq_true ?_⟩
  simp only [PyData.depth, depth_ints]
  omega
theorem eqv_ints_nil (ns : List Int) : PyData.eqv (.list (ns.map PyData.int)) (.list []) = decide (ns = []) := by
  cases ns with
  | nil => simp [PyData.eqv, PyData.eqvAll]
  | cons n ns => simp [PyData.eqv, PyData.eqvAll]
end G1

namespace G1
open PySem PySem.Spec PyProof.Rows L2
theorem ix_zero {n : Nat} (h : 0 < n) : ixN n 0 = some 0 := by
  unfold ixN
  rw [if_pos (by omega), if_pos (by omega)]
  rfl
theorem ix_at {n j : Nat} {i : Int} (e : i = (j : Int)) (h : j < n) : ixN n i = some j := by
  subst e
  unfold ixN
  rw [if_pos (by omega), if_pos (by omega)]
  rfl
end G1

namespace G1
open PySem PySem.Spec PyProof.Rows L2
theorem seq_zero (n : Nat) : seqIndex? 0 (n + 1) = some 0 := by
  unfold seqIndex?
  simp
end G1

namespace G1
open PySem PySem.Spec PyProof.Rows L2
section
variable {K : PySem.W.Frag} {H : Hp} {Q : VK} {p : Addr} {xs : List V} {v : V}
theorem go_ixL {R : V → Prop} {j : Nat} (hs : H p = some (.lst xs)) (hj : xs[j]? = some v) (q : R v) :
    ∃ p' xs' i' v', V.ref p = V.ref p' ∧ V.int (j : Int) = V.int i' ∧ SqL K H p' xs' ∧ atI xs' i' = some v' ∧ R v' :=
  ⟨p, xs, _, v, rfl, rfl, sqL_of hs, atI_nat hj, q⟩
theorem go_ixLi {R : V → Prop} {i : Int} {j : Nat} (hs : H p = some (.lst xs)) (e : i = (j : Int)) (hj : xs[j]? = some v) (q : R v) :
    ∃ p' xs' i' v', V.ref p = V.ref p' ∧ V.int i = V.int i' ∧ SqL K H p' xs' ∧ atI xs' i' = some v' ∧ R v' := by
  subst e
  exact ⟨p, xs, _, v, rfl, rfl, sqL_of hs, atI_nat hj, q⟩
theorem go_ixT {R : V → Prop} {j : Nat} (hs : H p = some (.tup xs)) (hj : xs[j]? = some v) (q : R v) :
    ∃ p' xs' i' v', V.ref p = V.ref p' ∧ V.int (j : Int) = V.int i' ∧ SqT K H p' xs' ∧ atI xs' i' = some v' ∧ R v' :=
  ⟨p, xs, _, v, rfl, rfl, sqT_of hs, atI_nat hj, q⟩
theorem go_ixLast {R : V → Prop} (hs : H p = some (.lst xs)) (hj : xs[xs.length - 1]? = some v) (q : R v) :
    ∃ p' xs' i' v', V.ref p = V.ref p' ∧ V.int (-1) = V.int i' ∧ SqL K H p' xs' ∧ atI xs' i' = some v' ∧ R v' := by
  refine ⟨p, xs, _, v, rfl, rfl, sqL_of hs, ?_, q⟩
  have hl : 0 < xs.length := by
    cases xs with
    | nil => simp at hj
    | cons a l => simp
  unfold atI ixN
  rw [if_neg (by omega), if_pos (by omega)]
  show xs[(-1 + (xs.length : Int)).toNat]? = _
  rw [show (-1 + (xs.length : Int)).toNat = xs.length - 1 by omega]
  exact hj
theorem go_tup {R : List V → Prop} (hs : H p = some (.tup xs)) (q : R xs) : ∃ a ys, V.ref p = V.ref a ∧ SqT K H a ys ∧ R ys := ⟨p, xs, rfl, sqT_of hs, q⟩
theorem go_unl {R : List V → Prop} (hs : H p = some (.lst xs)) (q : R xs) : ∃ a ys, V.ref p = V.ref a ∧ SqL K H a ys ∧ R ys := ⟨p, xs, rfl, sqL_of hs, q⟩
theorem go_lenL {R : List V → Prop} (hs : H p = some (.lst xs)) (q : R xs) : ∃ p' ys, [V.ref p] = [V.ref p'] ∧ (SqL K H p' ys ∨ SqT K H p' ys) ∧ R ys :=
  ⟨p, xs, rfl, Or.inl (sqL_of hs), q⟩
end
end G1

namespace G1
open PySem PySem.Spec PyProof.Rows L2
section
variable {l m : List Bool}
/-- len of a text of two signs -/
theorem go_lenS {R : Str → Prop} (h : l.length ≤ 1000000) (q : R (B l)) : ∃ z, [V.str (B l)] = [V.str z] ∧ z.length ≤ sizeLine ∧ R z :=
  ⟨B l, rfl, by rw [B_len]; exact szM h, q⟩
theorem go_addS {R : Str → Str → Prop} (h : l.length + m.length ≤ 1000000) (q : R (B l) (B m)) : ∃ i j, V.str (B l) = V.str i ∧ V.str (B m) = V.str j ∧ i.length + j.length ≤ sizeLine ∧ R i j :=
  ⟨B l, B m, rfl, rfl, by rw [B_len, B_len]; exact szM h, q⟩
theorem go_mulS {R : Str → Int → Prop} {n : Int} (h : 0 ≤ n ∧ n < 2 ^ 30) (h2 : l.length * n.toNat ≤ 1000000) (q : R (B l) n) :
    ∃ z k, V.str (B l) = V.str z ∧ V.int n = V.int k ∧ 0 ≤ k ∧ k < 2 ^ 30 ∧ z.length * k.toNat ≤ 1000000 ∧ R z k :=
  ⟨B l, n, rfl, rfl, h.1, h.2, by rw [B_len]; exact h2, q⟩
theorem go_sl {R : Str → Prop} (h : l.length ≤ 1000000) (q : R (B l)) : ∃ z, V.str (B l) = V.str z ∧ z.length ≤ sizeLine ∧ R z :=
  ⟨B l, rfl, by rw [B_len]; exact szM h, q⟩
theorem go_ixS {R : Nat → Prop} {i : Int} {k : Nat} {b : Bool} (hi : i = (k : Int)) (h : l.length ≤ 1000000) (hk : l[k]? = some b) (q : R (cB b)) :
    ∃ z i' c, V.str (B l) = V.str z ∧ V.int i = V.int i' ∧ z.length ≤ sizeLine ∧ atI z.cps.toList i' = some c ∧ R c :=
  ⟨B l, i, _, rfl, rfl, by rw [B_len]; exact szM h, B_at l hi hk, q⟩
theorem go_ixSn {R : Nat → Prop} {i : Int} {k : Nat} {b : Bool} (hi : i = -1 - (k : Int)) (h : l.length ≤ 1000000) (hl : k < l.length) (hk : l[l.length - 1 - k]? = some b) (q : R (cB b)) :
    ∃ z i' c, V.str (B l) = V.str z ∧ V.int i = V.int i' ∧ z.length ≤ sizeLine ∧ atI z.cps.toList i' = some c ∧ R c :=
  ⟨B l, i, _, rfl, rfl, by rw [B_len]; exact szM h, B_atNeg l hi hl hk, q⟩
end
end G1
namespace G1
open PySem PySem.Spec PyProof.Rows L2
theorem log_small {i : Int} (h0 : 0 ≤ i) (h1 : i < 2 ^ 64) : i.natAbs.log2 < 1920 := by
  have h : i.natAbs < 2 ^ 64 := by omega
  by_cases hz : i.natAbs = 0
  · rw [hz]; decide
  · exact Nat.lt_of_lt_of_le ((Nat.log2_lt hz).mpr h) (by decide)
theorem go_bit {R : Int → Prop} {i : Int} (h : 0 ≤ i ∧ i < 2) (q : R i) : ∃ k, [V.int i] = [V.int k] ∧ k.natAbs.log2 < 1920 ∧ R k :=
  ⟨i, rfl, log_small h.1 (by omega), q⟩
theorem flat_one : ∀ bs : List Bool, (bs.map fun b => [b]).flatten = bs
  | [] => rfl
  | b :: bs => by rw [List.map_cons, List.flatten_cons, flat_one bs]; rfl
theorem len_one : ∀ bs : List Bool, ((bs.map fun b => B [b]).map (·.length)).sum = bs.length
  | [] => rfl
  | b :: bs => by
    rw [List.map_cons, List.map_cons, List.sum_cons, len_one bs, B_len, List.length_cons, List.length_cons, List.length_nil]
    omega
theorem go_join {K : PySem.W.Frag} {H : Hp} {R : Str → List Str → Prop} {D : Addr} {bs : List Bool} (hD : H D = some (.lst (bs.map fun b => V.str (B [b])))) (hl : bs.length ≤ 1000000) (q : R (B []) (bs.map fun b => B [b])) :
    ∃ a p ys, V.str (B []) = V.str a ∧ [V.ref D] = [V.ref p] ∧ (SqL K H p (List.map V.str ys) ∨ SqT K H p (List.map V.str ys)) ∧ (List.map (fun x => x.length) ys).sum + ys.length * a.length ≤ 16777216 ∧ R a ys := by
  refine ⟨B [], D, bs.map fun b => B [b], rfl, rfl, Or.inl ?_, ?_, q⟩
  · rw [List.map_map]
    exact sqL_of hD
  · rw [len_one, B_len]
    simp
    omega
theorem joined (bs : List Bool) : Txt.join (B []) (bs.map fun b => B [b]) = B bs := by
  have e : (bs.map fun b => B [b]) = (bs.map fun b => [b]).map B := by rw [List.map_map]; rfl
  rw [e, join_nil, flat_one]
end G1
namespace G1
open PySem PySem.Spec PyProof.Rows L2
theorem go_in {K : PySem.W.Frag} {H : Hp} {R : Bool → Prop} {p : Addr} {x : Int} {ys : List Int} {xs : List V} (hs : H p = some (.tup xs)) (e : xs = ys.map V.int) (q : ∀ b, R b) :
    ∃ p' zs, V.ref p = V.ref p' ∧ (SqL K H p' zs ∨ SqT K H p' zs) ∧ flatV (.int x) = true ∧ zs.all flatV = true ∧ R (inV (.int x) zs) := by
  refine ⟨p, xs, rfl, Or.inr (sqT_of hs), rfl, ?_, q _⟩
  subst e
  rw [List.all_eq_true]
  intro v hv
  obtain ⟨i, _, rfl⟩ := List.mem_map.mp hv
  rfl
theorem mul_le {a b n m : Nat} (h1 : a ≤ n) (h2 : b ≤ m) (h : n * m ≤ 1000000) : a * b ≤ 1000000 := Nat.le_trans (Nat.mul_le_mul h1 h2) h
end G1
/-! texts of any signs, as lists of codes -/
namespace G1
open PySem PySem.Spec PyProof.Rows L2
def C (l : List Nat) : Str := SX.S l
theorem C_inj {l m : List Nat} (h : C l = C m) : l = m := SX.S_inj h
theorem C_dec (l m : List Nat) : decide (V.str (C l) = V.str (C m)) = decide (l = m) := by
  by_cases h : l = m
  · rw [h, decide_eq_true rfl, decide_eq_true rfl]
  · rw [decide_eq_false h, decide_eq_false fun e => h (C_inj (V.str.inj e))]
theorem C_len (l : List Nat) : (C l).length = l.length := SX.S_len l
theorem C_cps (l : List Nat) : (C l).cps.toList = l := rfl
theorem C_app (l m : List Nat) : C l ++ C m = C (l ++ m) := SX.S_cat l m
theorem C_one (c : Nat) : (⟨#[c]⟩ : Str) = C [c] := rfl
theorem C_cut (l : List Nat) (lo hi : Option Int) : cutS (C l) lo hi = C ((l.drop (HT.sIx l.length 0 lo)).take (HT.sIx l.length l.length hi - HT.sIx l.length 0 lo)) := by
  unfold cutS C
  rw [SX.S_len]
theorem C_to (l : List Nat) {j : Int} (h : 0 ≤ j) : cutS (C l) none (some j) = C (l.take j.toNat) := by
  rw [C_cut, sIx_of _ _ h]
  show C ((l.drop 0).take (min j.toNat l.length - 0)) = _
  rw [List.drop_zero, Nat.sub_zero, ← List.take_eq_take_min]
theorem C_from (l : List Nat) {i : Int} (h : 0 ≤ i) : cutS (C l) (some i) none = C (l.drop i.toNat) := by
  rw [C_cut, sIx_of _ _ h]
  show C ((l.drop (min i.toNat l.length)).take (l.length - min i.toNat l.length)) = _
  rw [List.take_of_length_le (by rw [List.length_drop]; omega)]
  by_cases hi : i.toNat ≤ l.length
  · rw [Nat.min_eq_left hi]
  · rw [Nat.min_eq_right (by omega), List.drop_length, List.drop_of_length_le (by omega)]
theorem C_mid (l : List Nat) {i j : Int} (h : 0 ≤ i) (hj : 0 ≤ j) : cutS (C l) (some i) (some j) = C ((l.take j.toNat).drop i.toNat) := by
  rw [C_cut, sIx_of _ _ h, sIx_of _ _ hj]
  congr 1
  apply List.ext_getElem?
  intro k
  rw [List.getElem?_take, List.getElem?_drop, List.getElem?_drop, List.getElem?_take]
  by_cases hi : i.toNat ≤ l.length
  · rw [Nat.min_eq_left hi]
    by_cases hj2 : j.toNat ≤ l.length
    · rw [Nat.min_eq_left hj2]
      by_cases h3 : k < j.toNat - i.toNat
      · rw [if_pos h3, if_pos (by omega)]
      · rw [if_neg h3, if_neg (by omega)]
    · rw [Nat.min_eq_right (by omega)]
      by_cases h3 : k < l.length - i.toNat
      · rw [if_pos h3, if_pos (by omega)]
      · rw [if_neg h3]
        split
        · exact (List.getElem?_eq_none (by omega)).symm
        · rfl
  · have hm : min i.toNat l.length = l.length := Nat.min_eq_right (Nat.le_of_lt (Nat.lt_of_not_le hi))
    rw [hm, List.getElem?_eq_none (by omega), List.getElem?_eq_none (by omega)]
    split <;> split <;> rfl
theorem C_at (l : List Nat) {i : Int} {k : Nat} {b : Nat} (hi : i = (k : Int)) (h : l[k]? = some b) : atI (C l).cps.toList i = some b := by
  subst hi
  exact atI_nat h
def repN (n : Nat) (l : List Nat) : List Nat := (List.replicate n l).flatten
theorem repN_zero (l : List Nat) : repN 0 l = [] := rfl
theorem repN_succ (n : Nat) (l : List Nat) : repN (n + 1) l = l ++ repN n l := by
  unfold repN
  rw [List.replicate_succ, List.flatten_cons]
theorem repN_length (n : Nat) (l : List Nat) : (repN n l).length = n * l.length := by
  induction n with
  | zero => rw [repN_zero, Nat.zero_mul]; rfl
  | succ n ih => rw [repN_succ, List.length_append, ih, Nat.succ_mul, Nat.add_comm]
theorem repN_get (n : Nat) (l : List Nat) (i : Nat) (h : i < n * l.length) : (repN n l)[i]? = l[i % l.length]? := by
  induction n generalizing i with
  | zero => rw [Nat.zero_mul] at h; omega
  | succ n ih =>
    rw [repN_succ]
    by_cases hi : i < l.length
    · rw [List.getElem?_append_left hi, Nat.mod_eq_of_lt hi]
    · have h1 : l.length ≤ i := by omega
      rw [List.getElem?_append_right h1, ih (i - l.length) (by rw [Nat.succ_mul] at h; omega), ← Nat.mod_eq_sub_mod h1]
theorem C_mul (l : List Nat) {n : Int} (h : 0 ≤ n) : Txt.mul (C l) n = C (repN n.toNat l) := by
  unfold Txt.mul
  by_cases h1 : n < 1
  · rw [if_pos h1, show n.toNat = 0 by omega, repN_zero]
    rfl
  · rw [if_neg h1]
    by_cases h2 : (n == 1 || (C l).length == 0) = true
    · rw [if_pos h2]
      rw [Bool.or_eq_true, beq_iff_eq, beq_iff_eq, C_len] at h2
      rcases h2 with h2 | h2
      · subst h2
        show C l = C (repN 1 l)
        rw [repN_succ, repN_zero, List.append_nil]
      · rw [List.length_eq_zero_iff] at h2
        subst h2
        congr 1
        have := repN_length n.toNat []
        rw [List.length_nil, Nat.mul_zero, List.length_eq_zero_iff] at this
        exact this.symm
    · rw [if_neg h2]
      unfold C repN
      refine TL.ext_tl ?_
      show (List.foldl (· ++ ·) #[] (List.replicate n.toNat (SX.S l).cps)).toList = _
      rw [foldl_app]
      simp [TL.tl]
theorem joinC (ls : List (List Nat)) : Txt.join (B []) (ls.map C) = C ls.flatten := by
  show Txt.join (SX.S []) (ls.map SX.S) = _
  rw [SX.join_S]
  unfold C
  congr 1
  have key : ∀ ms : List (List Nat), TL.joinL [] ms = ms.flatten := by
    intro ms
    induction ms with
    | nil => rfl
    | cons m ms ih =>
      cases ms with
      | nil => simp [TL.joinL]
      | cons k ks =>
        rw [List.flatten_cons, ← ih]
        simp [TL.joinL]
  exact key _
theorem C_dig (i : Nat) (h : i < 10) : (Str.ofString (toString (i : Int))) = C [48 + i] := by
  have : i = 0 ∨ i = 1 ∨ i = 2 ∨ i = 3 ∨ i = 4 ∨ i = 5 ∨ i = 6 ∨ i = 7 ∨ i = 8 ∨ i = 9 := by omega
  rcases this with rfl | rfl | rfl | rfl | rfl | rfl | rfl | rfl | rfl | rfl <;> decide +kernel
/-- join of single signs -/
theorem go_joinC {K : PySem.W.Frag} {H : Hp} {R : Str → List Str → Prop} {D : Addr} {bs : List Nat} (hD : H D = some (.lst (bs.map fun b => V.str (C [b])))) (hl : bs.length ≤ 1000000) (q : R (B []) (bs.map fun b => C [b])) :
    ∃ a p ys, V.str (B []) = V.str a ∧ [V.ref D] = [V.ref p] ∧ (SqL K H p (List.map V.str ys) ∨ SqT K H p (List.map V.str ys)) ∧ (List.map (fun x => x.length) ys).sum + ys.length * a.length ≤ 16777216 ∧ R a ys := by
  have ln : ∀ bs : List Nat, ((bs.map fun b => C [b]).map (·.length)).sum = bs.length := by
    intro bs
    induction bs with
    | nil => rfl
    | cons b bs ih =>
      rw [List.map_cons, List.map_cons, List.sum_cons, ih, C_len, List.length_cons, List.length_cons, List.length_nil]
      omega
  refine ⟨B [], D, bs.map fun b => C [b], rfl, rfl, Or.inl ?_, ?_, q⟩
  · rw [List.map_map]
    exact sqL_of hD
  · rw [ln, B_len]
    simp
    omega
theorem joinedC (bs : List Nat) : Txt.join (B []) (bs.map fun b => C [b]) = C bs := by
  have e : (bs.map fun b => C [b]) = (bs.map fun b => [b]).map C := by rw [List.map_map]; rfl
  rw [e, joinC]
  congr 1
  induction bs with
  | nil => rfl
  | cons b bs ih => rw [List.map_cons, List.flatten_cons, ih (by rw [List.map_map]; rfl)]; rfl
theorem go_lenT {K : PySem.W.Frag} {H : Hp} {p : Addr} {xs : List V} {R : List V → Prop} (hs : H p = some (.tup xs)) (q : R xs) : ∃ p' ys, [V.ref p] = [V.ref p'] ∧ (SqL K H p' ys ∨ SqT K H p' ys) ∧ R ys :=
  ⟨p, xs, rfl, Or.inr (sqT_of hs), q⟩
section
variable {l m : List Nat}
theorem goC_sl {R : Str → Prop} (h : l.length ≤ 1000000) (q : R (C l)) : ∃ z, V.str (C l) = V.str z ∧ z.length ≤ sizeLine ∧ R z :=
  ⟨C l, rfl, by rw [C_len]; exact szM h, q⟩
theorem goC_mulS {R : Str → Int → Prop} {n : Int} (h : 0 ≤ n ∧ n < 2 ^ 30) (h2 : l.length * n.toNat ≤ 1000000) (q : R (C l) n) :
    ∃ z k, V.str (C l) = V.str z ∧ V.int n = V.int k ∧ 0 ≤ k ∧ k < 2 ^ 30 ∧ z.length * k.toNat ≤ 1000000 ∧ R z k :=
  ⟨C l, n, rfl, rfl, h.1, h.2, by rw [C_len]; exact h2, q⟩
theorem goC_ixS {R : Nat → Prop} {i : Int} {k : Nat} {b : Nat} (hi : i = (k : Int)) (h : l.length ≤ 1000000) (hk : l[k]? = some b) (q : R b) :
    ∃ z i' c, V.str (C l) = V.str z ∧ V.int i = V.int i' ∧ z.length ≤ sizeLine ∧ atI z.cps.toList i' = some c ∧ R c :=
  ⟨C l, i, _, rfl, rfl, by rw [C_len]; exact szM h, C_at l hi hk, q⟩
end
end G1
/-! tuple * n of any n from 1 on -/
namespace G1
open PySem PySem.Spec PyProof.Rows L2
theorem tuple_mul1 (l : Addr) (items : Array Value) (n : Nat) (dd : Option Addr) (sl : Array (Option Value)) (u : Tok) :
    Meets (Builtin.«tuple.__mul__» ⟨[.ref l, .int 1 u], []⟩) (fun _ R s => s.heap.get? l = some { cls := .type "tuple", dict := dd, data := .seq items n, slots := sl } ∧
      R (.ok (.ret (Value.ref l))) s) :=
  .of_wp fun prog w A R s h => by
    obtain ⟨hp, g, d, tk, os⟩ := s
    obtain ⟨hl, h⟩ := h
    have f1 := AutoSeq1.idx_int
    have c0 : (decide ((1 : Int) < -(2 ^ 63)) || decide ((1 : Int) ≥ 2 ^ 63)) = false := by decide
    have c1 : (items.isEmpty || (1 : Int) == 1) = true := by simp
    wp_walk using wpAny_loadPart' hl
    repeat (first
      | (refine wpAny_ite_false (decide_eq_false (by rw [c0]; exact Bool.false_ne_true)) ?_; wp_walk using wpAny_loadPart' hl)
      | (refine wpAny_ite_true (decide_eq_true c1) ?_; wp_walk using wpAny_loadPart' hl))
    exact ⟨_, rfl, h⟩
def rRepA (K : PySem.W.Frag) : R2 := fun x y H Q => ∃ l k xs, x = .ref l ∧ y = .int k ∧ SqT K H l xs ∧ xs ≠ [] ∧ 1 ≤ k ∧ k ≤ 1000000 ∧ k.toNat * xs.length ≤ 1000000 ∧ (k = 1 → Q (.ref l) H) ∧ (k ≠ 1 → ∀ p, H p = none → Q (.ref p) (upd H p (.tup (List.replicate k.toNat xs).flatten)))
section
variable {X : Cx}
theorem op_repA : OpR X (binaryOp .Mult) (rRepA X.K) := by
  intro pins s σ H x y v u Q I rx ry h
  obtain ⟨l, k, xs, rfl, rfl, hT, hne, h1, h2, hz, q1, q2⟩ := h
  cases rx
  obtain ⟨t, rfl⟩ := ry
  obtain ⟨its, r, ⟨⟨cls, dd, data, sl⟩, ho, hc, n, hd⟩, hs⟩ := I.tuple hT
  simp only at hc hd
  subst hc hd
  have hle : its.length = xs.length := r.length.symm
  have hn : its ≠ [] := fun e => hne (by
    rw [e] at hle
    exact List.eq_nil_of_length_eq_zero hle.symm)
  have hi : its.toArray.isEmpty = false := by
    cases its with
    | nil => exact absurd rfl hn
    | cons a b => rfl
  have hsz0 : its.toArray.size = xs.length := by rw [List.size_toArray, hle]
  by_cases k1 : k = 1
  · subst k1
    refine wpAny_binaryOp_repeat_ref (T := "tuple") (U := "int") (by decide) ⟨_, ho, rfl⟩ (fun s' => typeIs_int s' 1 t) noFill_tuple_mul F.fills_int_mul F.slot_int_rmul repeat_tuple F.slot_int_index.lookup
      (call_meets F.slot_int_rmul (typeIs_int s 1 t) F.entry_int_rmul (F.args_int_rmul_2 _ _) (int_rmul_tuple 1 t l its.toArray n dd sl)
        ⟨ho, rfl, ⟨_, ho, rfl⟩, call_meets F.slot_tuple_mul ⟨_, ho, rfl⟩ F.entry_tuple_mul (F.args_tuple_mul_2 _ _) (tuple_mul1 l its.toArray n dd sl t) ⟨ho, ?_⟩⟩)
    exact ⟨.ref l, H, I, rfl, q1 rfl⟩
  have hm : ((its.toArray.size : Nat) : Int) * k ≤ 1000000 := by
    rw [hsz0]
    have : ((k.toNat * xs.length : Nat) : Int) = ((xs.length : Nat) : Int) * k := by
      rw [Int.natCast_mul, Int.toNat_of_nonneg (by omega), Int.mul_comm]
    omega
  have flen : (List.replicate k.toNat its).flatten.length ≤ sizeLine := by
    rw [PyProof.Rows.lm_len_rep_flat, hle, sizeLine_eq]
    omega
  have c0 : (decide (k < -(2 ^ 63)) || decide (k ≥ 2 ^ 63)) = false := by
    rw [decide_eq_false (by omega), decide_eq_false (by omega)] <;> rfl
  have c1 : (its.toArray.isEmpty || k == 1) = false := by
    rw [hi, Bool.false_or]
    exact beq_eq_false_iff_ne.mpr (by omega)
  have c2 : (decide (k ≤ 0) || its.toArray.isEmpty) = false := by
    rw [hi, Bool.or_false]
    exact decide_eq_false (by omega)
  have c4 : Builtin.Tuple.tupleTooMany (((its.toArray.size : Nat) : Int) * k) = false := by
    unfold Builtin.Tuple.tupleTooMany
    rw [sizeLine_eq]
    exact decide_eq_false (by omega)
  refine wpAny_binaryOp_repeat_ref (T := "tuple") (U := "int") (by decide) ⟨_, ho, rfl⟩ (fun s' => typeIs_int s' k t) noFill_tuple_mul F.fills_int_mul F.slot_int_rmul repeat_tuple F.slot_int_index.lookup
    (call_meets F.slot_int_rmul (typeIs_int s k t) F.entry_int_rmul (F.args_int_rmul_2 _ _) (int_rmul_tuple k t l its.toArray n dd sl)
      ⟨ho, rfl, ⟨_, ho, rfl⟩, call_meets F.slot_tuple_mul ⟨_, ho, rfl⟩ F.entry_tuple_mul (F.args_tuple_mul_2 _ _) (tuple_mulW l its.toArray n dd sl k t c0 c1 c2 (by omega) c4 (by rw [size_rep, List.size_toArray]; exact flen)) ⟨ho, ?_⟩⟩)
  rw [size_rep]
  refine ⟨.ref s.heap.objs.size, _, I.laid (t' := s.toks) (o := .tup (List.replicate k.toNat xs).flatten) (fun b ob q => Heap.get?_push_of_some _ q) (Nat.le_refl _) ?_, rfl, q2 k1 _ (I.hok.fresh (Nat.le_refl _))⟩
  exact ⟨by rw [PyProof.Rows.lm_len_rep_flat, sizeLine_eq]; omega, _, r.rep k.toNat, IsTup.new _ _⟩
end

/-! one way for all cases of tuples put together -/
section
variable {K : PySem.W.Frag} {H : Hp} {Q : VK}
theorem rep_all {l : Addr} {k : Int} {xs : List V} (hl : H l = some (.tup xs)) (hne : xs ≠ []) (h1 : 1 ≤ k) (h2 : k ≤ 1000000) (hz : k.toNat * xs.length ≤ 1000000)
    (h : ∀ p H', Same H H' → H' p = some (.tup (List.replicate k.toNat xs).flatten) → Q (.ref p) H') : rRepA K (.ref l) (.int k) H Q := by
  refine ⟨l, k, xs, rfl, rfl, .inl (.inl hl), hne, h1, h2, hz, fun e => ?_, fun _ p np => h p _ (fun b x e => by rw [upd_ne (ne_of_none e np)]; exact e) upd_same⟩
  subst e
  refine h l H (fun _ _ e => e) ?_
  rw [hl]
  show some (HO.tup xs) = some (HO.tup (List.replicate 1 xs).flatten)
  simp
theorem rep_all_eq {l : Addr} {k : Nat} {v : V} {xs : List V} (e : v = .int (k : Nat)) (hl : H l = some (.tup xs)) (hne : xs ≠ []) (h1 : 1 ≤ k) (h2 : k ≤ 1000000) (hz : k * xs.length ≤ 1000000)
    (h : ∀ p H', Same H H' → H' p = some (.tup (List.replicate k xs).flatten) → Q (.ref p) H') : rRepA K (.ref l) v H Q := by
  subst e
  exact rep_all hl hne (by omega) (by omega) hz h
theorem cat_all {a b : Addr} {xs ys : List V} (ha : H a = some (.tup xs)) (hb : H b = some (.tup ys)) (hz : xs.length + ys.length ≤ sizeLine)
    (h : ∀ p H', Same H H' → H' p = some (.tup (xs ++ ys)) → Q (.ref p) H') : rCatA K (.ref a) (.ref b) H Q := by
  refine ⟨a, b, xs, ys, rfl, rfl, .inl (.inl ha), .inl (.inl hb), hz, fun e => ?_, fun _ e => ?_, fun _ _ p np => h p _ (fun b x e => by rw [upd_ne (ne_of_none e np)]; exact e) upd_same⟩
  · subst e
    exact h b H (fun _ _ e => e) hb
  · subst e
    exact h a H (fun _ _ e => e) (by rw [List.append_nil]; exact ha)
theorem sl_all {a : Addr} {xs : List V} {lo hi : Option Int} (ha : H a = some (.tup xs)) (h : ∀ p H', Same H H' → H' p = some (.tup (cutV xs lo hi)) → Q (.ref p) H') : rSlA K (.ref a) lo hi H Q := by
  refine ⟨a, xs, rfl, .inl (.inl ha), fun w => ?_, fun _ p np => h p _ (fun b x e => by rw [upd_ne (ne_of_none e np)]; exact e) upd_same⟩
  refine h a H (fun _ _ e => e) ?_
  rw [ha]
  unfold cutV
  rw [w.1, w.2, List.drop_zero, Nat.sub_zero, List.take_length]
end
end G1
/-! for i, c in enumerate(text) -/
namespace G1
open PySem PySem.Spec PyProof.Rows L2
/-- the signs of x, each in a new pair with its place -/
def Ites (x : Str) : It :=
  ⟨fun i _ => i < x.cps.size, fun i H v H' => ∃ T c, v = .ref T ∧ H T = none ∧ x.cps[i]? = some c ∧ H' = upd H T (.tup [.int (i : Nat), .str ⟨#[c]⟩]), fun i _ => i = x.cps.size⟩
theorem turn_enumS {P : Program} {w : World} {K : PySem.W.Frag} {elts : List Expr} {kk : Nat} {tpos : Pos} (x : Str) (t : Tok) (e it : Addr) (hne : e ≠ it) :
    Turn P w K (.Tuple elts kk tpos) (Ites x) [e, it] e (fun i h => (∃ old, IsEnum h e it (0 + (i : Int)) old) ∧ h.IsStrIter it (strIterType x) x t i) where
  mem := by simp
  obj := fun i h st b hb => by
    obtain ⟨⟨old, he⟩, ⟨o, ho, hc, hd⟩⟩ := st
    rcases (by simpa using hb : b = e ∨ b = it) with rfl | rfl
    · exact ⟨_, he, fun v z => nomatch z⟩
    · refine ⟨o, ho, fun v z => ?_⟩
      rw [hd] at z
      cases z
  keep := fun i h h' st k => by
    obtain ⟨⟨old, he⟩, o, ho, r⟩ := st
    exact ⟨⟨old, k e (by simp) _ he⟩, o, k it (by simp) o ho, r⟩
  item := by
    intro X hX hW hKK calm i pins s σ H E I away st hg
    subst hX hW hKK
    have D := Draws.text (prog := X.prog) (w := X.w) (A := X.A.in1) (I.ok.hd calm) it x t
    have W := GoesN.enumFrom (elts := elts) (x1 := kk) (pos := tpos) 0 D e hne (by simpa using hne) (by simp)
    refine W.goes i s _ E hg st fun v h' tk hY st' hk htk => ?_
    obtain ⟨T, t', y, ev, hT, ⟨c, u, hcx, ey⟩, hO⟩ := hY
    subst ev ey
    obtain ⟨o, ho, hoc, n, hod⟩ := hO
    have new : ObjOk X.prog X.w (upd H T (.tup [.int (i : Nat), .str ⟨#[c]⟩])) h' T (.tup [.int (i : Nat), .str ⟨#[c]⟩]) :=
      ⟨by show 2 ≤ sizeLine; decide, [.int (0 + (i : Int)) t', .str ⟨#[c]⟩ u], .cons ⟨t', by rw [Int.zero_add]⟩ (.cons ⟨u, rfl⟩ .nil), ⟨o, ho, hoc, n, hod⟩⟩
    have I1 : Inv X pins σ (upd H T (.tup [.int (i : Nat), .str ⟨#[c]⟩])) { s with heap := h', toks := tk } :=
      I.turnedNew (ch := [e, it]) hk away hT new
    refine ⟨.ref T, _, I1, rfl, ⟨T, c, rfl, I.hok.fresh hT, hcx, rfl⟩, st', fun b hb => ?_⟩
    have hb' : b < s.heap.objs.size := by
      obtain ⟨⟨old, he⟩, o2, ho2, _⟩ := st
      rcases (by simpa using hb : b = e ∨ b = it) with rfl | rfl
      · exact Heap.lt_size he
      · exact Heap.lt_size ho2
    rw [upd_ne (Nat.ne_of_lt (Nat.lt_of_lt_of_le hb' hT))]
    exact (away b hb).1
  done := by
    intro X hX hW hKK calm i pins s σ H E I away st hg
    subst hX hW hKK
    replace hg : i = x.cps.size := hg
    subst hg
    have D := Draws.text (prog := X.prog) (w := X.w) (A := X.A.in1) (I.ok.hd calm) it x t
    have W := GoesN.enumFrom (elts := elts) (x1 := kk) (pos := tpos) 0 D e hne (by simpa using hne) (by simp)
    refine W.stops s _ E st fun h' tk hk htk => ?_
    exact I.turnedL (t' := tk) (ch := [e, it]) hk away
  self := fun A i s Q E st q => wpAny_pyIter_enum st.1.choose_spec q
def iEnumS (ta : TA) : TI := fun σ H R => ta σ H fun vs H1 => ∃ x, vs = [.str x] ∧ R (Ites x) H1
theorem pi_enumS {X : Cx} {e : Expr} {ta : TA} {p pos tpos : Pos} {elts : List Expr} {kk : Nat} (hg : Gl X "enumerate") (hm : X.mg "enumerate" = none) (ha : PA X [e] ta) (hs : starEach [e] X.env = [(false, eval e X.env)] := by rfl) :
    PI X (.Tuple elts kk tpos) (.Call (.Name "enumerate" p) [e] [] pos) (iEnumS ta) := by
  refine ⟨fun pn s σ H R Iv told => Call_ (ld_blt Iv hg hm boot_enumerate (PyProof.Rows.callWith_type1 (thn (ha.run pos pn s σ H _ Iv told) ?_) hs rfl))⟩
  rintro us s1 ⟨vs, H1, I1, r1, x, rfl, q⟩
  cases r1 with
  | cons r rr =>
    cases rr
    obtain ⟨t, rfl⟩ := r
    refine call_enumerate_str fun h' he hit hsz hk => wpAny_pyIter_enum he ?_
    refine ⟨s1.heap.objs.size + 1, [s1.heap.objs.size + 1, s1.heap.objs.size], _, _, H1, rfl, I1.kept (t' := s1.toks) hk, turn_enumS x t (s1.heap.objs.size + 1) s1.heap.objs.size (Nat.succ_ne_self _), ⟨⟨.none, he⟩, hit⟩, fun b hb => ?_, q⟩
    have up : s1.heap.objs.size ≤ b := by
      rcases (by simpa using hb : b = s1.heap.objs.size + 1 ∨ b = s1.heap.objs.size) with rfl | rfl
      · exact Nat.le_succ _
      · exact Nat.le_refl _
    exact I1.fpOk up (I1.hok.fresh up)
theorem lc_enumS {x : Str} {g : TG} {tt : TT} {te : TE} {vs : List Nat} {σ : L2.St} {H1 : Hp} {D : Addr} {Qd : Hp → Prop} (Pv : Nat → Hp → Prop) (h0 : Pv 0 (upd H1 D (.lst [])))
    (hs : ∀ i c T H, x.cps[i]? = some c → Pv i H → H T = none → g (.ref T) (wipe σ vs) (upd H T (.tup [.int (i : Nat), .str ⟨#[c]⟩])) fun σ2 H2 => wipe σ2 vs = wipe σ vs ∧ tt σ2 H2 fun b H3 =>
      if b = true then te σ2 H3 fun y H4 => ∃ acc, H4 D = some (.lst acc) ∧ acc.length < sizeLine ∧ Pv (i + 1) (upd H4 D (.lst (acc ++ [y]))) else Pv (i + 1) H3) (hd : ∀ H, Pv x.cps.size H → Qd H) :
    ∃ W : Nat → Nat → Hp → Prop, (∃ m, W 0 m (upd H1 D (.lst []))) ∧ ∀ i m H, W i m H →
      ((Ites x).stop i H ∧ Qd H) ∨ ((Ites x).go i H ∧ ∃ Nx : Hp → Prop, (∀ H', Nx H' → ∃ m', m' < m ∧ W (i + 1) m' H') ∧ ∀ v H', (Ites x).yld i H v H' → g v (wipe σ vs) H' fun σ2 H2 => wipe σ2 vs = wipe σ vs ∧ tt σ2 H2 fun b H3 =>
        if b = true then te σ2 H3 fun y H4 => ∃ acc, H4 D = some (.lst acc) ∧ acc.length < sizeLine ∧ Nx (upd H4 D (.lst (acc ++ [y]))) else Nx H3) := by
  refine ⟨fun i m H => m = x.cps.size - i ∧ i ≤ x.cps.size ∧ Pv i H, ⟨x.cps.size, by simp, Nat.zero_le _, h0⟩, ?_⟩
  rintro i m H ⟨rfl, hi, p⟩
  by_cases hlt : i < x.cps.size
  · refine .inr ⟨hlt, Pv (i + 1), fun H' p' => ⟨x.cps.size - (i + 1), by omega, rfl, hlt, p'⟩, fun v H' y => ?_⟩
    obtain ⟨T, c, rfl, hT, hc, rfl⟩ := y
    exact hs i c T H hc p hT
  · have e : i = x.cps.size := by omega
    subst e
    exact .inl ⟨rfl, hd H p⟩
theorem for_enumS {x : Str} {g : TG} {tb : TS} {D : Ends} {σ : L2.St} {H : Hp} (Pv : Nat → L2.St → Hp → Prop) (h0 : Pv 0 σ H)
    (hs : ∀ i c T σ H, x.cps[i]? = some c → Pv i σ H → H T = none → g (.ref T) σ (upd H T (.tup [.int (i : Nat), .str ⟨#[c]⟩])) fun σ2 H2 => tb { D with nx := Pv (i + 1), ct := Pv (i + 1), bk := D.nx } σ2 H2) (hd : ∀ σ H, Pv x.cps.size σ H → D.nx σ H) :
    ∃ W : Nat → Nat → L2.St → Hp → Prop, (∃ m, W 0 m σ H) ∧ ∀ i m σ H, W i m σ H →
      ((Ites x).stop i H ∧ D.nx σ H) ∨ ((Ites x).go i H ∧ ∃ N : L2.St → Hp → Prop, (∀ σ' H', N σ' H' → ∃ m', m' < m ∧ W (i + 1) m' σ' H') ∧ ∀ v H', (Ites x).yld i H v H' → g v σ H' fun σ2 H2 => tb { D with nx := N, ct := N, bk := D.nx } σ2 H2) := by
  refine ⟨fun i m σ H => m = x.cps.size - i ∧ i ≤ x.cps.size ∧ Pv i σ H, ⟨x.cps.size, by simp, Nat.zero_le _, h0⟩, ?_⟩
  rintro i m σ H ⟨rfl, hi, p⟩
  by_cases hlt : i < x.cps.size
  · refine .inr ⟨hlt, Pv (i + 1), fun σ' H' p' => ⟨x.cps.size - (i + 1), by omega, rfl, hlt, p'⟩, fun v H' y => ?_⟩
    obtain ⟨T, c, rfl, hT, hc, rfl⟩ := y
    exact hs i c T σ H hc p hT
  · have e : i = x.cps.size := by omega
    subst e
    exact .inl ⟨rfl, hd σ H p⟩
end G1
/-! for i, x in enumerate(tuple) -/
namespace G1
open PySem PySem.Spec PyProof.Rows L2
def enumObj (n : Addr) : Obj := { cls := .type "enumerate", data := .fields #[.none, .bool false, .ref n, rawInt 0, .none, .none] }
/-- enumerate(v) of what has an iterator -/
theorem meets_en {v : Value} {o : Obj} {Hh : Heap → Prop} (B : Begins v o Hh) : Meets (Builtin.«enumerate.__new__» ⟨[.type "enumerate", v], []⟩) (fun _ R s => Hh s.heap ∧
    R (.ok (.ret (.ref (s.heap.push o).objs.size))) { s with heap := (s.heap.push o).push (enumObj s.heap.objs.size) }) := by
  refine .of_wp fun pr ww AA RR s hyp => ?_
  obtain ⟨hp, gg, dd, tt, ss⟩ := s
  obtain ⟨h1, hyp⟩ := hyp
  have hsub := sub_enumerate
  have it : ∀ {A' : Around} {E' : Value → Shared → Prop} {Q' : Value → Shared → Prop}, Q' (.ref hp.objs.size) ⟨hp.push o, gg, dd, tt, ss⟩ → wpAny (model pr ww) A' (pyIter v) Q' E' ⟨hp, gg, dd, tt, ss⟩ := fun z => B.iter pr ww _ _ ⟨hp, gg, dd, tt, ss⟩ _ h1 z
  wp_walk using it
  refine wpAny_stack_any fun _ => wpAny_pure ?_
  split
  · rename_i cc _ _ _ _ _
    cases (cc == Value.type "enumerate") <;> (wp_walk using it; exact ⟨_, rfl, hyp⟩)
  · (wp_walk using it; exact ⟨_, rfl, hyp⟩)
theorem call_en {P : Program} {w : World} {A : Around} {E : Value → Shared → Prop} {s : Shared} {v : Value} {o : Obj} {Hh : Heap → Prop} {Q : Value → Shared → Prop} (B : Begins v o Hh) (h1 : Hh s.heap)
    (h : ∀ h', IsEnum h' (s.heap.objs.size + 1) s.heap.objs.size 0 .none → h'.get? s.heap.objs.size = some o → (∀ b x, s.heap.get? b = some x → h'.get? b = some x) → Q (.ref (s.heap.objs.size + 1)) { s with heap := h' }) :
    wpAny (model P w) A (call (.type "enumerate") [v]) Q E s := by
  refine callType_new F.called_enumerate (by decide) (F.typeCall_enumerate_1 _) (F.newCall_enumerate_1 _) (fun z => F.args_object_init_2 z _) F.entry_enumerate_new (meets_en B) ⟨h1, ?_⟩
  have z1 : (s.heap.push o).objs.size = s.heap.objs.size + 1 := Heap.size_push ..
  have e1 := Heap.get?_push_size (s.heap.push o) (o := enumObj s.heap.objs.size) rfl
  show _ ∧ _
  rw [z1]
  rw [z1] at e1
  exact ⟨⟨_, e1, rfl⟩, h _ e1 (Heap.get?_push_of_some _ (Heap.get?_push_size _ B.free)) fun b x z => Heap.get?_push_of_some _ (Heap.get?_push_of_some _ z)⟩
/-- the items of the tuple at a, each in a new pair with its place -/
def Iten (K : PySem.W.Frag) (a : Addr) : It :=
  ⟨fun i H => ∃ (xs : List V) (x : V), SqT K H a xs ∧ xs[i]? = some x, fun i H v H' => ∃ T x, v = .ref T ∧ H T = none ∧ H' = upd H T (.tup [.int (i : Nat), x]) ∧ ∀ xs, SqT K H a xs → xs[i]? = some x, fun i H => ∃ xs : List V, SqT K H a xs ∧ xs.length = i⟩
theorem turn_en {P : Program} {w : World} {K : PySem.W.Frag} {elts : List Expr} {kk : Nat} {tpos : Pos} (a e it : Addr) :
    Turn P w K (.Tuple elts kk tpos) (Iten K a) [e, it] e (fun i h => (∃ old, IsEnum h e it (0 + (i : Int)) old) ∧ h.IsTupleIter it a i ∧ e ≠ it ∧ e ≠ a ∧ a ≠ it) where
  mem := by simp
  obj := fun i h st b hb => by
    obtain ⟨⟨old, he⟩, ⟨o, ho, hc, hd⟩, _⟩ := st
    rcases (by simpa using hb : b = e ∨ b = it) with rfl | rfl
    · exact ⟨_, he, fun v z => nomatch z⟩
    · refine ⟨o, ho, fun v z => ?_⟩
      rw [hd] at z
      cases z
  keep := fun i h h' st k => by
    obtain ⟨⟨old, he⟩, hi, r⟩ := st
    exact ⟨⟨old, k e (by simp) _ he⟩, hi.at fun o q => k it (by simp) o q, r⟩
  item := by
    intro X hX hW hKK calm i pins s σ H E I away st hg
    subst hX hW hKK
    obtain ⟨he, hit, n1, n2, n3⟩ := st
    obtain ⟨xs, x, hq, hx⟩ := hg
    obtain ⟨its, rv, p, _⟩ := I.tuple hq
    obtain ⟨u, hu, ru⟩ := rv.get hx
    have D := Draws.tuple (prog := X.prog) (w := X.w) (A := X.A.in1) (I.ok.hd calm) it a n3 its.toArray
    have W := GoesN.enumFrom (elts := elts) (x1 := kk) (pos := tpos) 0 D e n1 (by simp [n1, n2]) (by simp)
    have il : i < its.toArray.size := by
      have := (List.getElem?_eq_some_iff.mp hu).1
      simpa using this
    refine W.goes i s _ E il ⟨he, hit, p⟩ fun v h' tk hY st' hk htk => ?_
    obtain ⟨T, t', y, ev, hT, hy, hO⟩ := hY
    have ey : y = u := by
      rw [List.getElem?_toArray, hu] at hy
      exact (Option.some.inj hy).symm
    subst ev ey
    obtain ⟨o, ho, hoc, n, hod⟩ := hO
    have new : ObjOk X.prog X.w (upd H T (.tup [.int (i : Nat), x])) h' T (.tup [.int (i : Nat), x]) :=
      ⟨by show 2 ≤ sizeLine; decide, [.int (0 + (i : Int)) t', y], .cons ⟨t', by rw [Int.zero_add]⟩ (.cons ru .nil), ⟨o, ho, hoc, n, hod⟩⟩
    have I1 : Inv X pins σ (upd H T (.tup [.int (i : Nat), x])) { s with heap := h', toks := tk } := I.turnedNew (ch := [e, it]) hk away hT new
    refine ⟨.ref T, _, I1, rfl, ⟨T, x, rfl, I.hok.fresh hT, rfl, fun ys hy => by rw [I.tuple_inj hy hq]; exact hx⟩, ⟨st'.1, st'.2.1, n1, n2, n3⟩, fun b hb => ?_⟩
    have hb' : b < s.heap.objs.size := by
      obtain ⟨old, he⟩ := he
      obtain ⟨o2, ho2, _⟩ := hit
      rcases (by simpa using hb : b = e ∨ b = it) with rfl | rfl
      · exact Heap.lt_size he
      · exact Heap.lt_size ho2
    rw [upd_ne (Nat.ne_of_lt (Nat.lt_of_lt_of_le hb' hT))]
    exact (away b hb).1
  done := by
    intro X hX hW hKK calm i pins s σ H E I away st hg
    subst hX hW hKK
    obtain ⟨he, hit, n1, n2, n3⟩ := st
    obtain ⟨xs, hq, hl⟩ := hg
    obtain ⟨its, rv, p, _⟩ := I.tuple hq
    have l2 := rv.length
    have D := Draws.tuple (prog := X.prog) (w := X.w) (A := X.A.in1) (I.ok.hd calm) it a n3 its.toArray
    have W := GoesN.enumFrom (elts := elts) (x1 := kk) (pos := tpos) 0 D e n1 (by simp [n1, n2]) (by simp)
    have ei : i = its.toArray.size := by
      rw [List.size_toArray]
      omega
    rw [ei] at he hit
    refine W.stops s _ E ⟨he, hit, p⟩ fun h' tk hk htk => ?_
    exact I.turnedL (t' := tk) (ch := [e, it]) hk away
  self := fun A i s Q E st q => wpAny_pyIter_enum st.1.choose_spec q
def iEnumT (K : PySem.W.Frag) (ta : TA) : TI := fun σ H R => ta σ H fun vs H1 => ∃ a xs, vs = [.ref a] ∧ SqT K H1 a xs ∧ R (Iten K a) H1
theorem pi_enumT {X : Cx} {e : Expr} {ta : TA} {p pos tpos : Pos} {elts : List Expr} {kk : Nat} (hg : Gl X "enumerate") (hm : X.mg "enumerate" = none) (ha : PA X [e] ta) (hs : starEach [e] X.env = [(false, eval e X.env)] := by rfl) :
    PI X (.Tuple elts kk tpos) (.Call (.Name "enumerate" p) [e] [] pos) (iEnumT X.K ta) := by
  refine ⟨fun pn s σ H R Iv told => Call_ (ld_blt Iv hg hm boot_enumerate (PyProof.Rows.callWith_type1 (thn (ha.run pos pn s σ H _ Iv told) ?_) hs rfl))⟩
  rintro us s1 ⟨vs, H1, I1, r1, a, xs, rfl, hq, q⟩
  cases r1 with
  | cons r rr =>
    cases rr
    cases r
    obtain ⟨its, rv, p', _⟩ := I1.tuple hq
    have la : a < s1.heap.objs.size := by
      obtain ⟨o, ho, _⟩ := p'
      exact Heap.lt_size ho
    refine call_en (begins_tuple a its.toArray) p' fun h' he hit hk => wpAny_pyIter_enum he ?_
    refine ⟨s1.heap.objs.size + 1, [s1.heap.objs.size + 1, s1.heap.objs.size], _, _, H1, rfl, I1.kept (t' := s1.toks) hk, turn_en a (s1.heap.objs.size + 1) s1.heap.objs.size, ⟨⟨.none, he⟩, ⟨_, hit, rfl, rfl⟩, Nat.succ_ne_self _, ?_, ?_⟩, fun b hb => ?_, q⟩
    · exact fun z => absurd la (by rw [← z]; exact Nat.not_lt.mpr (Nat.le_succ _))
    · exact Nat.ne_of_lt la
    · have up : s1.heap.objs.size ≤ b := by
        rcases (by simpa using hb : b = s1.heap.objs.size + 1 ∨ b = s1.heap.objs.size) with rfl | rfl
        · exact Nat.le_succ _
        · exact Nat.le_refl _
      exact I1.fpOk up (I1.hok.fresh up)
theorem lc_enumT {K : PySem.W.Frag} {a : Addr} {xs : List V} {g : TG} {tt : TT} {te : TE} {vs : List Nat} {σ : L2.St} {H1 : Hp} {D : Addr} {Qd : Hp → Prop} (Pv : Nat → Hp → Prop) (h0 : Pv 0 (upd H1 D (.lst [])))
    (hq : ∀ i H, Pv i H → SqT K H a xs)
    (hs : ∀ i x T H, xs[i]? = some x → Pv i H → H T = none → g (.ref T) (wipe σ vs) (upd H T (.tup [.int (i : Nat), x])) fun σ2 H2 => wipe σ2 vs = wipe σ vs ∧ tt σ2 H2 fun b H3 =>
      if b = true then te σ2 H3 fun y H4 => ∃ acc, H4 D = some (.lst acc) ∧ acc.length < sizeLine ∧ Pv (i + 1) (upd H4 D (.lst (acc ++ [y]))) else Pv (i + 1) H3) (hd : ∀ H, Pv xs.length H → Qd H) :
    ∃ W : Nat → Nat → Hp → Prop, (∃ m, W 0 m (upd H1 D (.lst []))) ∧ ∀ i m H, W i m H →
      ((Iten K a).stop i H ∧ Qd H) ∨ ((Iten K a).go i H ∧ ∃ Nx : Hp → Prop, (∀ H', Nx H' → ∃ m', m' < m ∧ W (i + 1) m' H') ∧ ∀ v H', (Iten K a).yld i H v H' → g v (wipe σ vs) H' fun σ2 H2 => wipe σ2 vs = wipe σ vs ∧ tt σ2 H2 fun b H3 =>
        if b = true then te σ2 H3 fun y H4 => ∃ acc, H4 D = some (.lst acc) ∧ acc.length < sizeLine ∧ Nx (upd H4 D (.lst (acc ++ [y]))) else Nx H3) := by
  refine ⟨fun i m H => m = xs.length - i ∧ i ≤ xs.length ∧ Pv i H, ⟨xs.length, by simp, Nat.zero_le _, h0⟩, ?_⟩
  rintro i m H ⟨rfl, hi, p⟩
  have sq := hq i H p
  by_cases hlt : i < xs.length
  · refine .inr ⟨⟨xs, xs[i], sq, List.getElem?_eq_getElem hlt⟩, Pv (i + 1), fun H' p' => ⟨xs.length - (i + 1), by omega, rfl, hlt, p'⟩, fun v H' y => ?_⟩
    obtain ⟨T, x, rfl, hT, rfl, hx⟩ := y
    exact hs i x T H (hx xs sq) p hT
  · have e : i = xs.length := by omega
    subst e
    exact .inl ⟨⟨xs, sq, rfl⟩, hd H p⟩
end G1
/-! repr of None and of numbers -/
namespace G1
open PySem PySem.Spec PyProof.Rows L2
def shO0 : V → Str
  | .int i => Str.ofString (toString i)
  | _ => "None"
/-- the text of None or of a number -/
@[irreducible] def shO (v : V) : Str := shO0 v
/-- None, or a number that is not too great -/
def Leaf (v : V) : Prop := v = .non ∨ ∃ i : Int, v = .int i ∧ i.natAbs.log2 < 1920
theorem leaf_non : Leaf .non := .inl rfl
theorem leaf_int {i : Int} (h0 : 0 ≤ i) (h1 : i < 2 ^ 1000) : Leaf (.int i) := by
  refine .inr ⟨i, rfl, ?_⟩
  obtain ⟨n, rfl⟩ : ∃ n : Nat, i = (n : Int) := ⟨i.toNat, by omega⟩
  have hn : n < 2 ^ 1000 := by
    have e : ((2 : Int) ^ 1000) = ((2 ^ 1000 : Nat) : Int) := by norm_cast
    rw [e] at h1
    exact Int.ofNat_lt.mp h1
  by_cases z : n = 0
  · subst z
    decide
  · have : n.log2 < 1000 := (Nat.log2_lt z).mpr hn
    show n.log2 < 1920
    omega
section
variable {X : Cx}
theorem call_reprO : CallR X (.builtin "repr") (fun xs H Q => ∃ v : V, xs = [v] ∧ Leaf v ∧ Q (.str (shO v)) H) := by
  intro pn s σ H xs us Q I r told
  obtain ⟨v, rfl, lf, q⟩ := told
  obtain ⟨u, rfl, ru⟩ := vals1 r
  unfold shO at q
  rcases lf with rfl | ⟨i, rfl, hi⟩
  · obtain rfl : u = Value.none := ru
    exact PySem.P.repr_of_none ⟨.str _, H, I.tok _, ⟨_, rfl⟩, q⟩
  · obtain ⟨t, rfl⟩ := ru
    exact PySem.P.repr_of_int hi ⟨.str _, H, I.tok _, ⟨_, rfl⟩, q⟩
end
end G1
/-! repr of lists of numbers and None -/
namespace G1
open PySem PySem.Spec PyProof.Rows L2
/-- None, or a number below 10 ** 30 -/
def Num (d : PyData) : Prop := d = .none ∨ ∃ i : Int, d = .int i ∧ 0 ≤ i ∧ i < 10 ^ 30
theorem num_weight {d : PyData} (h : Num d) : d.weight ≤ 101 := by
  rcases h with rfl | ⟨i, rfl, h0, h1⟩
  · exact Nat.zero_le _
  · show (if i == 0 then 0 else i.natAbs.log2 + 1) ≤ 101
    split
    · omega
    · obtain ⟨n, rfl⟩ : ∃ n : Nat, i = (n : Int) := ⟨i.toNat, by omega⟩
      rename_i hz
      have z : n ≠ 0 := fun e => by rw [e] at hz; exact hz rfl
      have hn : n < 2 ^ 100 := by
        have e : (10 : Int) ^ 30 < ((2 ^ 100 : Nat) : Int) := by decide
        omega
      have : n.log2 < 100 := (Nat.log2_lt z).mpr hn
      show n.log2 + 1 ≤ 101
      omega
theorem num_short {d : PyData} (h : Num d) : d.leavesShort 40 = true := by
  rcases h with rfl | ⟨i, rfl, h0, h1⟩
  · rfl
  · show decide ((PyData.shown (.int i)).length ≤ 40) = true
    rw [decide_eq_true_eq]
    have e := PyProof.Rows.toString_length_le h0 (k := 30) (by decide) h1
    have e2 : (PyData.shown (.int i)).length = (Str.ofString (toString i)).length := rfl
    omega
theorem log_ok {i : Int} (h0 : 0 ≤ i) (h1 : i < 10 ^ 30) : i.natAbs.log2 < 1920 := by
  rcases leaf_int h0 (Int.lt_trans h1 (by decide)) with e | ⟨j, e, h⟩
  · cases e
  · obtain rfl := V.int.inj e
    exact h
theorem num_all : ∀ ds : List PyData, (∀ d ∈ ds, Num d) → PyData.showableAll ds = true ∧ PyData.hasDictAll ds = false ∧ PyData.depthAll ds ≤ 20 ∧ PyData.leavesShortAll 40 ds = true ∧ PyData.weightAll ds ≤ 102 * ds.length
  | [], _ => by simp [PyData.showableAll, PyData.hasDictAll, PyData.depthAll, PyData.leavesShortAll, PyData.weightAll]
  | d :: ds, h => by
    obtain ⟨h1, h2, h3, h4, h5⟩ := num_all ds fun e he => h e (List.mem_cons_of_mem _ he)
    have n := h d List.mem_cons_self
    have nw := num_weight n
    have ns := num_short n
    refine ⟨?_, ?_, ?_, ?_, ?_⟩
    · rcases n with rfl | ⟨i, rfl, i0, i1⟩
      · simp [PyData.showableAll, PyData.showable, h1]
      · simp [PyData.showableAll, PyData.showable, h1, log_ok i0 i1]
    · rcases n with rfl | ⟨i, rfl, _⟩ <;> simp [PyData.hasDictAll, PyData.hasDict, h2]
    · rcases n with rfl | ⟨i, rfl, _⟩ <;> (simp only [PyData.depthAll, PyData.depth]; omega)
    · simp [PyData.leavesShortAll, h4, ns]
    · simp only [PyData.weightAll, List.length_cons]
      omega
theorem repr_nums {K : PySem.W.Frag} {H : Hp} {R : PyData → Prop} {a : Addr} {xs : List V} (ds : List PyData) (e : H a = some (.lst xs)) (hd : DpAll K H xs ds) (hs : ∀ d ∈ ds, Num d) (hl : ds.length ≤ 40) (q : R (.list ds)) :
    ∃ (a' : Addr) (d' : PyData), [V.ref a] = [V.ref a'] ∧ Dp K H (.ref a') d' ∧ d'.showable = true ∧ d'.hasDict = false ∧ d'.depth ≤ 60 ∧ d'.shown.length ≤ sizeLine ∧ R d' := by
  obtain ⟨h1, h2, h3, h4, h5⟩ := num_all ds hs
  refine ⟨a, .list ds, rfl, .lst (.inl (.inl e)) hd, ?_, ?_, ?_, ?_, q⟩
  · simp only [PyData.showable]; exact h1
  · simp only [PyData.hasDict]; exact h2
  · simp only [PyData.depth]; omega
  · have s := PyData.shown_le 40 (by decide) (.list ds) (by simp only [PyData.leavesShort]; exact h4)
    simp only [PyData.weight] at s
    have : 102 * ds.length ≤ 102 * 40 := Nat.mul_le_mul_left _ hl
    exact Nat.le_trans s (Nat.le_trans (by omega : 42 * PyData.weightAll ds + 40 ≤ 200000) (by decide))
end G1
/-! draws from a dict: two lists, a sum and a count under a name of its own -/
namespace G1
open PySem PySem.Spec PyProof.Rows L2
/-- the dict's pairs -/
def dkv (m : Str) (g c : Addr) (W k : Int) : List (Key × V) := [(Sum.inr ("great" : Str), .ref g), (Sum.inr ("cells" : Str), .ref c), (Sum.inr ("whole" : Str), .int W), (Sum.inr m, .int k)]
/-- the deck at w, its great numbers at g -/
def DkAt (m : Str) (w g : Addr) (H : Hp) : Prop := ∃ (c : Addr) (gs cs : List Int) (W k : Int), w ≠ g ∧ c ≠ g ∧ c ≠ w ∧ H w = some (.dK (dkv m g c W k)) ∧
  H g = some (.lst (gs.map V.int)) ∧ H c = some (.lst (cs.map V.int)) ∧ 0 < cs.length ∧ gs.length ≤ 1000 ∧ cs.length ≤ 1000
section
variable {m : Str} {w g p : Addr} {H H' : Hp} {o : HO}
theorem DkAt.same (D : DkAt m w g H) (s : Same H H') : DkAt m w g H' := by
  obtain ⟨c, gs, cs, W, k, h1, h2, h3, h4, h5, h6, h7⟩ := D
  exact ⟨c, gs, cs, W, k, h1, h2, h3, s _ _ h4, s _ _ h5, s _ _ h6, h7⟩
theorem DkAt.fresh (D : DkAt m w g H) (h : H p = none) : p ≠ w ∧ p ≠ g := by
  obtain ⟨c, gs, cs, W, k, h1, h2, h3, h4, h5, h6, h7⟩ := D
  exact ⟨(ne_of_none h4 h).symm, (ne_of_none h5 h).symm⟩
theorem new_ofK (D : DkAt m w g H) (hp : H p = none) (e : upd H p o = H') : Same H H' ∧ DkAt m w g H' ∧ At w g H' p o := by
  subst e
  exact ⟨same_new hp, D.same (same_new hp), (D.fresh hp).1, (D.fresh hp).2, upd_same⟩
theorem DkAt.tup {a : Addr} {xs : List V} (D : DkAt m w g H) (h : H a = some (.tup xs)) : At w g H a (.tup xs) := by
  obtain ⟨c, gs, cs, W, k, h1, h2, h3, h4, h5, h6, h7⟩ := D
  exact ⟨ne_of h h4 (by intro z; cases z), ne_of h h5 (by intro z; cases z), h⟩
end
theorem dk_get {m : Str} {g c : Addr} {W k : Int} (hm : Sum.inr m ≠ (Sum.inr ("great" : Str) : Key) ∧ Sum.inr m ≠ (Sum.inr ("cells" : Str) : Key) ∧ Sum.inr m ≠ (Sum.inr ("whole" : Str) : Key)) :
    valV (dkv m g c W k) (Sum.inr ("great" : Str)) = some (.ref g) ∧ valV (dkv m g c W k) (Sum.inr ("cells" : Str)) = some (.ref c) ∧ valV (dkv m g c W k) (Sum.inr ("whole" : Str)) = some (.int W) ∧ valV (dkv m g c W k) (Sum.inr m) = some (.int k) := by
  have e1 : (Sum.inr ("great" : Str) : Key) ≠ Sum.inr ("cells" : Str) := by decide
  have e2 : (Sum.inr ("great" : Str) : Key) ≠ Sum.inr ("whole" : Str) := by decide
  have e3 : (Sum.inr ("cells" : Str) : Key) ≠ Sum.inr ("whole" : Str) := by decide
  refine ⟨?_, ?_, ?_, ?_⟩
  · simp [dkv, valV]
  · simp [dkv, valV, e1]
  · simp [dkv, valV, e2, e3]
  · simp [dkv, valV, hm.1.symm, hm.2.1.symm, hm.2.2.symm]
end G1
/-! draws from a dict, the list of cells named; objects apart from all of it -/
namespace G1
open PySem PySem.Spec PyProof.Rows L2
def DkC (m : Str) (w g c : Addr) (H : Hp) : Prop := ∃ (gs cs : List Int) (W k : Int), w ≠ g ∧ c ≠ g ∧ c ≠ w ∧ H w = some (.dK (dkv m g c W k)) ∧
  H g = some (.lst (gs.map V.int)) ∧ H c = some (.lst (cs.map V.int)) ∧ 0 < cs.length ∧ gs.length ≤ 1000 ∧ cs.length ≤ 1000
/-- o stands at a, apart from the deck -/
structure Ac (w g c : Addr) (H : Hp) (a : Addr) (o : HO) : Prop where
  nw : a ≠ w
  ng : a ≠ g
  nc : a ≠ c
  at_ : H a = some o
theorem Ac.go {w g c : Addr} {H H' : Hp} {a : Addr} {o : HO} (x : Ac w g c H a o) (s : Go w g H H') : Ac w g c H' a o := ⟨x.nw, x.ng, x.nc, s a o x.nw x.ng x.at_⟩
theorem Ac.same {w g c : Addr} {H H' : Hp} {a : Addr} {o : HO} (x : Ac w g c H a o) (s : Same H H') : Ac w g c H' a o := ⟨x.nw, x.ng, x.nc, s a o x.at_⟩
section
variable {m : Str} {w g c p : Addr} {H H' : Hp} {o : HO}
theorem DkC.same (D : DkC m w g c H) (s : Same H H') : DkC m w g c H' := by
  obtain ⟨gs, cs, W, k, h1, h2, h3, h4, h5, h6, h7⟩ := D
  exact ⟨gs, cs, W, k, h1, h2, h3, s _ _ h4, s _ _ h5, s _ _ h6, h7⟩
theorem DkC.fresh (D : DkC m w g c H) (h : H p = none) : p ≠ w ∧ p ≠ g ∧ p ≠ c := by
  obtain ⟨gs, cs, W, k, h1, h2, h3, h4, h5, h6, h7⟩ := D
  exact ⟨(ne_of_none h4 h).symm, (ne_of_none h5 h).symm, (ne_of_none h6 h).symm⟩
theorem new_ofC (D : DkC m w g c H) (hp : H p = none) (e : upd H p o = H') : Same H H' ∧ DkC m w g c H' ∧ Ac w g c H' p o := by
  subst e
  exact ⟨same_new hp, D.same (same_new hp), (D.fresh hp).1, (D.fresh hp).2.1, (D.fresh hp).2.2, upd_same⟩
theorem DkC.tup {a : Addr} {xs : List V} (D : DkC m w g c H) (h : H a = some (.tup xs)) : Ac w g c H a (.tup xs) := by
  obtain ⟨gs, cs, W, k, h1, h2, h3, h4, h5, h6, h7⟩ := D
  exact ⟨ne_of h h4 (by intro z; cases z), ne_of h h5 (by intro z; cases z), ne_of h h6 (by intro z; cases z), h⟩
/-- what stands apart is written -/
theorem DkC.upd {u : HO} (D : DkC m w g c H) (n1 : p ≠ w) (n2 : p ≠ g) (n3 : p ≠ c) : DkC m w g c (L2.upd H p u) := by
  obtain ⟨gs, cs, W, k, h1, h2, h3, h4, h5, h6, h7⟩ := D
  exact ⟨gs, cs, W, k, h1, h2, h3, (upd_ne n1.symm).trans h4, (upd_ne n2.symm).trans h5, (upd_ne n3.symm).trans h6, h7⟩
theorem Ac.upd {a : Addr} {u : HO} (x : Ac w g c H a o) (n : a ≠ p) : Ac w g c (L2.upd H p u) a o := ⟨x.nw, x.ng, x.nc, (upd_ne n).trans x.at_⟩
theorem Ac.set {u : HO} (x : Ac w g c H p o) : Ac w g c (L2.upd H p u) p u := ⟨x.nw, x.ng, x.nc, upd_same⟩
theorem go_upd' {D : Addr} {u : HO} {H1 : Hp} (S : Go w g H H1) (h : H D = none) : Go w g H (L2.upd H1 D u) := fun x v h1 h2 e => by
  rw [upd_ne (ne_of_none e h)]
  exact S x v h1 h2 e
end
end G1
/-! tuple[::-1] -/
namespace G1
open PySem PySem.Spec PyProof.Rows L2 HT
section
variable {prog : Program} {w : World} {A : Around} {E : Value → Shared → Prop} {s : Shared}
theorem adjust_rev (n : Nat) : Builtin.Slice.sliceAdjust none none (-1) (n : Int) = ((n : Int) - 1, -1) := by
  unfold Builtin.Slice.sliceAdjust
  simp
theorem places_rev (n : Nat) : Builtin.Slice.slicePlaces ((n : Int) - 1) (-1) (-1) = n := by
  unfold Builtin.Slice.slicePlaces
  have h1 : ¬ ((-1 : Int) > 0) := by omega
  simp only [h1, if_false]
  rw [show (- -1 : Int) = 1 by decide, Int.ediv_one]
  split <;> omega
theorem sliceApplied_rev {sl : Addr} {vs : Value} {n : Nat} {Q : Int × Int × Nat → Shared → Prop} (hs : s.heap.IsSliceOf sl .none .none vs) (ps : IsPart vs (some (-1)))
    (h : Q ((n : Int) - 1, -1, n) s) : wpAny (model prog w) A (Builtin.Slice.sliceApplied (.ref sl) (pure (n : Int))) Q E s := by
  obtain ⟨os, hos, hcs, hds⟩ := id hs
  unfold Builtin.Slice.sliceApplied Builtin.Slice.sliceFields
  refine wpAny_bind (wpAny_bind (wpAny_field hos hds (x := .none) rfl (wpAny_bind (wpAny_field hos hds (x := .none) rfl (wpAny_bind (wpAny_field hos hds (x := vs) rfl (wpAny_pure ?_)))))))
  refine wpAny_bind (slicePart_ ps ?_)
  show wpAny _ _ (if ((-1 : Int) == 0) = true then _ else _) _ _ s
  rw [if_neg (by decide)]
  refine wpAny_bind (slicePart_ .none (wpAny_bind (slicePart_ .none (wpAny_bind (wpAny_pure ?_)))))
  show wpAny _ _ (match Builtin.Slice.sliceAdjust none none (-1) (n : Int) with | (lo, hi) => pure (lo, (-1 : Int), Builtin.Slice.slicePlaces lo hi (-1))) _ _ s
  rw [adjust_rev n]
  show wpAny _ _ (pure ((n : Int) - 1, (-1 : Int), Builtin.Slice.slicePlaces ((n : Int) - 1) (-1) (-1))) _ _ s
  rw [places_rev]
  exact wpAny_pure h
theorem pick_rev (xs : Array Value) : ((List.range xs.size).filterMap fun (m : Nat) => xs[((xs.size : Int) - 1 + (m : Int) * -1).toNat]?).toArray = xs.toList.reverse.toArray := by
  have e : (fun (m : Nat) => xs[((xs.size : Int) - 1 + (m : Int) * -1).toNat]?) = (xs[·]?) ∘ fun m => xs.size - 1 - m := by
    funext m
    have : ((xs.size : Int) - 1 + (m : Int) * -1).toNat = xs.size - 1 - m := by omega
    rw [this]
    rfl
  rw [e, ← List.filterMap_map, PySem.W.krv_range, List.filterMap_reverse, PySem.W.krv_all]
theorem getItem_tuple_rev {t sl : Addr} {items : Array Value} {vs : Value} {Q : Value → Shared → Prop} (ht : IsTup s.heap t items) (hs : s.heap.IsSliceOf sl .none .none vs) (ps : IsPart vs (some (-1)))
    (h : Q (.ref s.heap.objs.size) { s with heap := s.heap.push { cls := .type "tuple", data := .seq items.toList.reverse.toArray } })
    (hsz : items.size ≤ sizeLine) : wpAny (model prog w) A (getItem (.ref t) (.ref sl)) Q E s := by
  have htake : sizeOk (.seq items.toList.reverse.toArray) := by
    show items.toList.reverse.toArray.size ≤ sizeLine
    rw [List.size_toArray, List.length_reverse, Array.length_toList]
    exact hsz
  obtain ⟨os, hos, hcs, hds⟩ := id hs
  have hTs : s.TypeIs (.ref sl) "slice" := ⟨os, hos, hcs⟩
  unfold getItem
  try with_reducible refine wpAny_holding ?_
  first | refine wpAny_bind (wpAny_pure ?_) | skip
  refine wpAny_bind (wpAny_sequenceKey ht.typeIs (by decide) ?_)
  refine wpAny_bind (wpAny_callSpecial?_slot (name := Str.ofString "__getitem__") ht.typeIs PyProof.Rows.slot_tuple_getitem
    (wpAny_call_entry PyProof.Rows.slot_tuple_getitem ht.typeIs entry_tuple_getitem ?_ (args_tuple_getitem _ _)))
  show wpAny _ _ (Builtin.Tuple.tupleItemsOf (.ref t) >>= _) _ _ s
  refine wpAny_bind (tupleItemsOf_ ht ?_)
  refine wpAny_bind (wpAny_typeOf hTs ?_)
  rw [if_pos (by decide)]
  refine wpAny_bind (sliceApplied_rev hs ps ?_)
  have hno : ¬ ((((items.size : Int) - 1) == 0 && (-1 : Int) == 1 && items.size == items.size) = true) := by
    intro q
    rw [Bool.and_eq_true, Bool.and_eq_true] at q
    exact absurd q.1.2 (by decide)
  show wpAny _ _ (if (((items.size : Int) - 1) == 0 && (-1 : Int) == 1 && items.size == items.size) = true then _ else _) _ _ s
  rw [if_neg hno, pick_rev]
  first
    | exact wpAny_bind (m := Builtin.Tuple.tupleExact _) (wpAny_newObj_type (wpAny_pure ⟨_, rfl, wpAny_pure h⟩) htake)
    | exact wpAny_bind (m := Builtin.Tuple.tupleExact _) (wpAny_newObj_type (wpAny_bind (wpAny_pure (wpAny_pure ⟨_, rfl, wpAny_pure h⟩))) htake)
    | exact wpAny_bind (wpAny_bind (m := Builtin.Tuple.tupleExact _) (wpAny_newObj_type (wpAny_pure (wpAny_pure ⟨_, rfl, wpAny_pure h⟩)) htake))
    | exact wpAny_bind (wpAny_bind (m := Builtin.Tuple.tupleExact _) (wpAny_newObj_type (wpAny_pure ⟨_, rfl, wpAny_pure h⟩) htake))
end
section
variable {X : Cx}
def tRevT (K : PySem.W.Frag) (te : TE) : TE := fun σ H Q => te σ H fun x H1 => ∃ a xs, x = .ref a ∧ SqT K H1 a xs ∧ ∀ p, H1 p = none → Q (.ref p) (upd H1 p (.tup xs.reverse))
theorem pe_revT {e : Expr} {te : TE} {k : Nat} {p1 p2 p3 pos : Pos} (he : PE X e te) : PE X (.Subscript e (.Slice none none (some (.UnaryOp .USub (.Constant (.int 1) k p1) p2)) p3) pos) (tRevT X.K te) := by
  refine ⟨fun pins s σ H Q I h => ?_⟩
  refine Subscript_ (thn (he.run pins s σ H _ I h) fun v s1 ⟨x, H1, I1, r1, q1⟩ => ?_)
  obtain ⟨a, xs, ex, hx, q⟩ := q1
  subst ex
  cases r1
  have hst : PO X (some (.UnaryOp .USub (.Constant (.int 1) k p1) p2)) (tPart (tUn (rU fun i => .int (-i)) (tC (.int 1)))) := po_some (pe_un un_neg pe_int)
  refine wpAny_Slice ?_
  rw [evalPart_none]
  refine wpAny_pure (wpAny_pure ?_)
  refine thn (hst.run pins s1 σ H1 (fun o H4 => o = some (-1) ∧ H4 = H1) I1 ⟨1, rfl, -1, rfl, rfl, rfl⟩) fun vs s4 ⟨o, H4, I4, ps, eo, e4⟩ => ?_
  subst eo e4
  have I5 : Inv X pins σ H4 { s4 with heap := s4.heap.push { cls := .type "slice", data := .fields #[.none, .none, vs] } } := I4.kept (t' := s4.toks) fun b ob q => Heap.get?_push_of_some _ q
  obtain ⟨its, r, ht, hz⟩ := I5.tuple hx
  have hlen := r.length
  show wpAny (model X.prog X.w) X.A (subscriptTail e (.Slice none none (some (.UnaryOp .USub (.Constant (.int 1) k p1) p2)) p3) (.ref a) (.ref s4.heap.objs.size)) (EP X pins σ Q) X.xe { s4 with heap := s4.heap.push { cls := .type "slice", data := .fields #[.none, .none, vs] } }
  refine tail_any (ops := [.ref a, .ref s4.heap.objs.size]) ht.typeIs (PyProof.Rows.slot_tuple_getitem.lookup) ?_ (by with_unfolding_all rfl)
  refine getItem_tuple_rev ht (Heap.IsSliceOf.new _ .none .none vs) ps ?_ (by rw [List.size_toArray]; omega)
  refine ⟨.ref _, _, I5.laid (t' := s4.toks) (o := .tup xs.reverse) (fun b ob q => Heap.get?_push_of_some _ q) (Nat.le_refl _) ?_, rfl, q _ (I5.hok.fresh (Nat.le_refl _))⟩
  exact ⟨by rw [List.length_reverse]; exact hz, _, r.reverse, IsTup.new _ _⟩
end
end G1
/-! zip of a tuple and a list -/
namespace G1
open PySem PySem.Spec PyProof.Rows L2
/-- the items of the tuple at a and of the list at c beside one another -/
def ItzM (K : PySem.W.Frag) (a c : Addr) : It :=
  ⟨fun i H => ∃ (xs ys : List V) (x y : V), SqT K H a xs ∧ SqL K H c ys ∧ xs[i]? = some x ∧ ys[i]? = some y,
   fun i H v H' => ∃ T x y, v = .ref T ∧ H T = none ∧ H' = upd H T (.tup [x, y]) ∧ (∀ xs, SqT K H a xs → xs[i]? = some x) ∧ ∀ ys, SqL K H c ys → ys[i]? = some y,
   fun i H => ∃ xs ys : List V, SqT K H a xs ∧ SqL K H c ys ∧ i = min xs.length ys.length⟩
theorem sepM {a c b : Addr} (ha : a < b) (hc : c < b) : ZipSep2 (b + 4) (b + 2) (b + 3) b (b + 1) [b, a] [b + 1, c] := by
  have n : ∀ (i j : Nat), i ≠ j → b + i ≠ b + j := fun i j h z => h (Nat.add_left_cancel z)
  have la : ∀ i : Nat, b + i ≠ a := fun i => Nat.ne_of_gt (Nat.lt_of_lt_of_le ha (Nat.le_add_right b i))
  have lc : ∀ i : Nat, b + i ≠ c := fun i => Nat.ne_of_gt (Nat.lt_of_lt_of_le hc (Nat.le_add_right b i))
  have nm : ∀ x y z : Addr, x ≠ y → x ≠ z → x ∉ [y, z] := fun x y z h1 h2 m => by
    rcases (by simpa using m : x = y ∨ x = z) with e | e
    · exact h1 e
    · exact h2 e
  exact ⟨n 2 4 (by decide), n 3 4 (by decide), n 2 3 (by decide), n 2 0 (by decide), by simp, nm _ _ _ (n 4 0 (by decide)) (la 4), nm _ _ _ (n 3 0 (by decide)) (la 3),
    n 2 1 (by decide), by simp, nm _ _ _ (n 4 1 (by decide)) (lc 4), nm _ _ _ (n 3 1 (by decide)) (lc 3), nm _ _ _ (n 0 1 (by decide)) (lc 0), nm _ _ _ (n 1 0 (by decide)) (la 1)⟩
def tnM (a c b : Addr) (i : Nat) (h : Heap) : Prop :=
  IsZip h (b + 4) (b + 2) (b + 3) .none ∧ IsTupOf2 h (b + 2) (.ref b) (.ref (b + 1)) ∧ (∃ u v, IsTupOf2 h (b + 3) u v) ∧ h.IsTupleIter b a i ∧ h.IsListIter (b + 1) c i
theorem turn_zipM {P : Program} {w : World} {K : PySem.W.Frag} {elts : List Expr} {kk : Nat} {tpos : Pos} {a c b : Addr} (ha : a < b) (hc : c < b) :
    Turn P w K (.Tuple elts kk tpos) (ItzM K a c) [b, b + 1, b + 2, b + 3, b + 4] (b + 4) (tnM a c b) where
  mem := by simp
  obj := fun i h st x hx => by
    obtain ⟨hz, h2, ⟨u, v, h3⟩, ⟨o1, q1, _, d1⟩, ⟨o2, q2, _, d2⟩⟩ := st
    rcases (by simpa using hx : x = b ∨ x = b + 1 ∨ x = b + 2 ∨ x = b + 3 ∨ x = b + 4) with rfl | rfl | rfl | rfl | rfl
    · exact ⟨o1, q1, fun v z => by rw [d1] at z; cases z⟩
    · exact ⟨o2, q2, fun v z => by rw [d2] at z; cases z⟩
    · exact ⟨_, h2, fun v z => nomatch z⟩
    · exact ⟨_, h3, fun v z => nomatch z⟩
    · exact ⟨_, hz, fun v z => nomatch z⟩
  keep := fun i h h' st k => by
    obtain ⟨hz, h2, ⟨u, v, h3⟩, ⟨o1, q1, r1⟩, ⟨o2, q2, r2⟩⟩ := st
    exact ⟨k _ (by simp) _ hz, k _ (by simp) _ h2, ⟨u, v, k _ (by simp) _ h3⟩, ⟨o1, k _ (by simp) _ q1, r1⟩, ⟨o2, k _ (by simp) _ q2, r2⟩⟩
  item := by
    intro X hX hW hKK calm i pins s σ H E I away st hg
    subst hX hW hKK
    obtain ⟨xs, ys, x, y, hqx, hqy, hx, hy⟩ := hg
    obtain ⟨hz, hTI, hTO, st1, st2⟩ := st
    obtain ⟨its, rv, p1, _⟩ := I.tuple hqx
    obtain ⟨its2, rv2, p2, _⟩ := I.list hqy
    obtain ⟨u, hu, ru⟩ := rv.get hx
    obtain ⟨u2, hu2, ru2⟩ := rv2.get hy
    have D1 := Draws.tuple (prog := X.prog) (w := X.w) (A := X.A.in1) (I.ok.hd calm) b a (Nat.ne_of_lt ha) its.toArray
    have D2 := Draws.list (prog := X.prog) (w := X.w) (A := X.A.in1) (I.ok.hd calm) (b + 1) c (Nat.ne_of_lt (Nat.lt_succ_of_lt hc)) its2.toArray
    have W := GoesN.zip2 (elts := elts) (x1 := kk) (pos := tpos) (sepM ha hc) D1 D2
    have il : i < min its.toArray.size its2.toArray.size := by
      have e1 := (List.getElem?_eq_some_iff.mp hu).1
      have e2 := (List.getElem?_eq_some_iff.mp hu2).1
      rw [List.size_toArray, List.size_toArray]
      omega
    refine W.goes i s _ E il ⟨hz, hTI, hTO, ⟨st1, p1⟩, ⟨st2, p2.isList⟩⟩ fun v h' tk hY st' hk htk => ?_
    obtain ⟨T, y1, y2, ev, hT, hy1, hy2, hO⟩ := hY
    have ey1 : y1 = u := by
      rw [List.getElem?_toArray, hu] at hy1
      exact (Option.some.inj hy1).symm
    have ey2 : y2 = u2 := by
      rw [List.getElem?_toArray, hu2] at hy2
      exact (Option.some.inj hy2).symm
    subst ev ey1 ey2
    obtain ⟨o, ho, hoc, n, hod⟩ := hO
    have new : ObjOk X.prog X.w (upd H T (.tup [x, y])) h' T (.tup [x, y]) :=
      ⟨by show 2 ≤ sizeLine; decide, [y1, y2], .cons ru (.cons ru2 .nil), ⟨o, ho, hoc, n, hod⟩⟩
    have I1 : Inv X pins σ (upd H T (.tup [x, y])) { s with heap := h', toks := tk } :=
      I.turnedNew (ch := [b, b + 1, b + 2, b + 3, b + 4]) (fun q o hq e => hk q o (fun z => hq (by
        rcases (by simpa using z : q = b + 4 ∨ q = b + 3 ∨ q = b ∨ q = b + 1) with rfl | rfl | rfl | rfl <;> simp)) e) away hT new
    refine ⟨.ref T, _, I1, rfl, ⟨T, x, y, rfl, I.hok.fresh hT, rfl, fun zs hq => by rw [I.tuple_inj hq hqx]; exact hx, fun zs hq => by rw [I.list_inj hq hqy]; exact hy⟩, ⟨st'.1, st'.2.1, st'.2.2.1, st'.2.2.2.1.1, st'.2.2.2.2.1⟩, fun q hq => ?_⟩
    have hb' : q < s.heap.objs.size := by
      have e4 : b + 4 < s.heap.objs.size := Heap.lt_size hz
      have l : ∀ j : Nat, j ≤ 4 → b + j < s.heap.objs.size := fun j hj => Nat.lt_of_le_of_lt (Nat.add_le_add_left hj b) e4
      rcases (by simpa using hq : q = b ∨ q = b + 1 ∨ q = b + 2 ∨ q = b + 3 ∨ q = b + 4) with rfl | rfl | rfl | rfl | rfl
      · exact l 0 (by decide)
      · exact l 1 (by decide)
      · exact l 2 (by decide)
      · exact l 3 (by decide)
      · exact l 4 (by decide)
    rw [upd_ne (Nat.ne_of_lt (Nat.lt_of_lt_of_le hb' hT))]
    exact (away q hq).1
  done := by
    intro X hX hW hKK calm i pins s σ H E I away st hg
    subst hX hW hKK
    obtain ⟨xs, ys, hqx, hqy, hi⟩ := hg
    obtain ⟨hz, hTI, hTO, st1, st2⟩ := st
    obtain ⟨its, rv, p1, _⟩ := I.tuple hqx
    obtain ⟨its2, rv2, p2, _⟩ := I.list hqy
    have l1 := rv.length
    have l2 := rv2.length
    have D1 := Draws.tuple (prog := X.prog) (w := X.w) (A := X.A.in1) (I.ok.hd calm) b a (Nat.ne_of_lt ha) its.toArray
    have D2 := Draws.list (prog := X.prog) (w := X.w) (A := X.A.in1) (I.ok.hd calm) (b + 1) c (Nat.ne_of_lt (Nat.lt_succ_of_lt hc)) its2.toArray
    have W := GoesN.zip2 (elts := elts) (x1 := kk) (pos := tpos) (sepM ha hc) D1 D2
    have ei : i = min its.toArray.size its2.toArray.size := by
      rw [List.size_toArray, List.size_toArray]
      omega
    rw [ei] at st1 st2
    refine W.stops s _ E ⟨hz, hTI, hTO, ⟨st1, p1⟩, ⟨st2, p2.isList⟩⟩ fun h' tk hk htk => ?_
    exact I.turnedL (t' := tk) (ch := [b, b + 1, b + 2, b + 3, b + 4]) (fun q o hq e => hk q o (fun z => hq (by
        rcases (by simpa using z : q = b + 4 ∨ q = b + 3 ∨ q = b ∨ q = b + 1) with rfl | rfl | rfl | rfl <;> simp)) e) away
  self := fun A i s Q E st q => wpAny_pyIter_zip st.1 q
def iZipM (K : PySem.W.Frag) (ta : TA) : TI := fun σ H R => ta σ H fun vs H1 => ∃ a c xs ys, vs = [.ref a, .ref c] ∧ SqT K H1 a xs ∧ SqL K H1 c ys ∧ R (ItzM K a c) H1
theorem pi_zipM {X : Cx} {e e2 : Expr} {ta : TA} {p pos tpos : Pos} {elts : List Expr} {kk : Nat} (hg : Gl X "zip") (hm : X.mg "zip" = none) (ha : PA X [e, e2] ta)
    (hs : starEach [e, e2] X.env = (false, eval e X.env) :: starEach [e2] X.env := by rfl) (hpl : (backTo pos (starEach [e2] X.env)).any (·.1) = false := by rfl) :
    PI X (.Tuple elts kk tpos) (.Call (.Name "zip" p) [e, e2] [] pos) (iZipM X.K ta) := by
  refine ⟨fun pins s σ H R I h => ?_⟩
  refine Call_ (ld_blt I hg hm PyProof.Rows.boot_zip (PyProof.Rows.callWith_type1 (thn (ha.run pos pins s σ H _ I h) fun us s1 ⟨vs, H1, I1, r1, q1⟩ => ?_) hs hpl))
  obtain ⟨a, c, xs, ys, ex, hqx, hqy, q⟩ := q1
  subst ex
  cases r1 with
  | cons r rr =>
    cases rr with
    | cons r' rr =>
      cases rr
      cases r
      cases r'
      obtain ⟨its, rv, p1, _⟩ := I1.tuple hqx
      obtain ⟨its2, rv2, p2, _⟩ := I1.list hqy
      have la : a < s1.heap.objs.size := by
        obtain ⟨o, ho, _⟩ := p1
        exact Heap.lt_size ho
      have lc : c < s1.heap.objs.size := p2.lt
      refine zip_begins2 (begins_tuple a its.toArray) (begins_list c its2.toArray) p1 p2.isList fun h' hz hTI hTO h1 h2 hsz hk => wpAny_pyIter_zip hz ?_
      have I2 : Inv X pins σ H1 { s1 with heap := h' } := I1.kept (t' := s1.toks) hk
      refine ⟨s1.heap.objs.size + 4, [s1.heap.objs.size, s1.heap.objs.size + 1, s1.heap.objs.size + 2, s1.heap.objs.size + 3, s1.heap.objs.size + 4], _, _, H1, rfl, I2, turn_zipM la lc, ⟨hz, hTI, ⟨_, _, hTO⟩, ⟨_, h1, rfl, rfl⟩, ⟨_, h2, rfl, rfl⟩⟩, fun x hx => ?_, q⟩
      have up : s1.heap.objs.size ≤ x := by
        rcases (by simpa using hx : x = s1.heap.objs.size ∨ x = s1.heap.objs.size + 1 ∨ x = s1.heap.objs.size + 2 ∨ x = s1.heap.objs.size + 3 ∨ x = s1.heap.objs.size + 4) with z | z | z | z | z
        · rw [z]; exact Nat.le_refl _
        · rw [z]; exact Nat.le_add_right _ _
        · rw [z]; exact Nat.le_add_right _ _
        · rw [z]; exact Nat.le_add_right _ _
        · rw [z]; exact Nat.le_add_right _ _
      exact I1.fpOk up (I1.hok.fresh up)
end G1
/-! zip of a list and a tuple -/
namespace G1
open PySem PySem.Spec PyProof.Rows L2
/-- the items of the tuple at a and of the list at c beside one another -/
def ItzN (K : PySem.W.Frag) (a c : Addr) : It :=
  ⟨fun i H => ∃ (xs ys : List V) (x y : V), SqL K H a xs ∧ SqT K H c ys ∧ xs[i]? = some x ∧ ys[i]? = some y,
   fun i H v H' => ∃ T x y, v = .ref T ∧ H T = none ∧ H' = upd H T (.tup [x, y]) ∧ (∀ xs, SqL K H a xs → xs[i]? = some x) ∧ ∀ ys, SqT K H c ys → ys[i]? = some y,
   fun i H => ∃ xs ys : List V, SqL K H a xs ∧ SqT K H c ys ∧ i = min xs.length ys.length⟩
theorem sepN {a c b : Addr} (ha : a < b) (hc : c < b) : ZipSep2 (b + 4) (b + 2) (b + 3) b (b + 1) [b, a] [b + 1, c] := by
  have n : ∀ (i j : Nat), i ≠ j → b + i ≠ b + j := fun i j h z => h (Nat.add_left_cancel z)
  have la : ∀ i : Nat, b + i ≠ a := fun i => Nat.ne_of_gt (Nat.lt_of_lt_of_le ha (Nat.le_add_right b i))
  have lc : ∀ i : Nat, b + i ≠ c := fun i => Nat.ne_of_gt (Nat.lt_of_lt_of_le hc (Nat.le_add_right b i))
  have nm : ∀ x y z : Addr, x ≠ y → x ≠ z → x ∉ [y, z] := fun x y z h1 h2 m => by
    rcases (by simpa using m : x = y ∨ x = z) with e | e
    · exact h1 e
    · exact h2 e
  exact ⟨n 2 4 (by decide), n 3 4 (by decide), n 2 3 (by decide), n 2 0 (by decide), by simp, nm _ _ _ (n 4 0 (by decide)) (la 4), nm _ _ _ (n 3 0 (by decide)) (la 3),
    n 2 1 (by decide), by simp, nm _ _ _ (n 4 1 (by decide)) (lc 4), nm _ _ _ (n 3 1 (by decide)) (lc 3), nm _ _ _ (n 0 1 (by decide)) (lc 0), nm _ _ _ (n 1 0 (by decide)) (la 1)⟩
def tnN (a c b : Addr) (i : Nat) (h : Heap) : Prop :=
  IsZip h (b + 4) (b + 2) (b + 3) .none ∧ IsTupOf2 h (b + 2) (.ref b) (.ref (b + 1)) ∧ (∃ u v, IsTupOf2 h (b + 3) u v) ∧ h.IsListIter b a i ∧ h.IsTupleIter (b + 1) c i
theorem turn_zipN {P : Program} {w : World} {K : PySem.W.Frag} {elts : List Expr} {kk : Nat} {tpos : Pos} {a c b : Addr} (ha : a < b) (hc : c < b) :
    Turn P w K (.Tuple elts kk tpos) (ItzN K a c) [b, b + 1, b + 2, b + 3, b + 4] (b + 4) (tnN a c b) where
  mem := by simp
  obj := fun i h st x hx => by
    obtain ⟨hz, h2, ⟨u, v, h3⟩, ⟨o1, q1, _, d1⟩, ⟨o2, q2, _, d2⟩⟩ := st
    rcases (by simpa using hx : x = b ∨ x = b + 1 ∨ x = b + 2 ∨ x = b + 3 ∨ x = b + 4) with rfl | rfl | rfl | rfl | rfl
    · exact ⟨o1, q1, fun v z => by rw [d1] at z; cases z⟩
    · exact ⟨o2, q2, fun v z => by rw [d2] at z; cases z⟩
    · exact ⟨_, h2, fun v z => nomatch z⟩
    · exact ⟨_, h3, fun v z => nomatch z⟩
    · exact ⟨_, hz, fun v z => nomatch z⟩
  keep := fun i h h' st k => by
    obtain ⟨hz, h2, ⟨u, v, h3⟩, ⟨o1, q1, r1⟩, ⟨o2, q2, r2⟩⟩ := st
    exact ⟨k _ (by simp) _ hz, k _ (by simp) _ h2, ⟨u, v, k _ (by simp) _ h3⟩, ⟨o1, k _ (by simp) _ q1, r1⟩, ⟨o2, k _ (by simp) _ q2, r2⟩⟩
  item := by
    intro X hX hW hKK calm i pins s σ H E I away st hg
    subst hX hW hKK
    obtain ⟨xs, ys, x, y, hqx, hqy, hx, hy⟩ := hg
    obtain ⟨hz, hTI, hTO, st1, st2⟩ := st
    obtain ⟨its, rv, p1, _⟩ := I.list hqx
    obtain ⟨its2, rv2, p2, _⟩ := I.tuple hqy
    obtain ⟨u, hu, ru⟩ := rv.get hx
    obtain ⟨u2, hu2, ru2⟩ := rv2.get hy
    have D1 := Draws.list (prog := X.prog) (w := X.w) (A := X.A.in1) (I.ok.hd calm) b a (Nat.ne_of_lt ha) its.toArray
    have D2 := Draws.tuple (prog := X.prog) (w := X.w) (A := X.A.in1) (I.ok.hd calm) (b + 1) c (Nat.ne_of_lt (Nat.lt_succ_of_lt hc)) its2.toArray
    have W := GoesN.zip2 (elts := elts) (x1 := kk) (pos := tpos) (sepN ha hc) D1 D2
    have il : i < min its.toArray.size its2.toArray.size := by
      have e1 := (List.getElem?_eq_some_iff.mp hu).1
      have e2 := (List.getElem?_eq_some_iff.mp hu2).1
      rw [List.size_toArray, List.size_toArray]
      omega
    refine W.goes i s _ E il ⟨hz, hTI, hTO, ⟨st1, p1.isList⟩, ⟨st2, p2⟩⟩ fun v h' tk hY st' hk htk => ?_
    obtain ⟨T, y1, y2, ev, hT, hy1, hy2, hO⟩ := hY
    have ey1 : y1 = u := by
      rw [List.getElem?_toArray, hu] at hy1
      exact (Option.some.inj hy1).symm
    have ey2 : y2 = u2 := by
      rw [List.getElem?_toArray, hu2] at hy2
      exact (Option.some.inj hy2).symm
    subst ev ey1 ey2
    obtain ⟨o, ho, hoc, n, hod⟩ := hO
    have new : ObjOk X.prog X.w (upd H T (.tup [x, y])) h' T (.tup [x, y]) :=
      ⟨by show 2 ≤ sizeLine; decide, [y1, y2], .cons ru (.cons ru2 .nil), ⟨o, ho, hoc, n, hod⟩⟩
    have I1 : Inv X pins σ (upd H T (.tup [x, y])) { s with heap := h', toks := tk } :=
      I.turnedNew (ch := [b, b + 1, b + 2, b + 3, b + 4]) (fun q o hq e => hk q o (fun z => hq (by
        rcases (by simpa using z : q = b + 4 ∨ q = b + 3 ∨ q = b ∨ q = b + 1) with rfl | rfl | rfl | rfl <;> simp)) e) away hT new
    refine ⟨.ref T, _, I1, rfl, ⟨T, x, y, rfl, I.hok.fresh hT, rfl, fun zs hq => by rw [I.list_inj hq hqx]; exact hx, fun zs hq => by rw [I.tuple_inj hq hqy]; exact hy⟩, ⟨st'.1, st'.2.1, st'.2.2.1, st'.2.2.2.1.1, st'.2.2.2.2.1⟩, fun q hq => ?_⟩
    have hb' : q < s.heap.objs.size := by
      have e4 : b + 4 < s.heap.objs.size := Heap.lt_size hz
      have l : ∀ j : Nat, j ≤ 4 → b + j < s.heap.objs.size := fun j hj => Nat.lt_of_le_of_lt (Nat.add_le_add_left hj b) e4
      rcases (by simpa using hq : q = b ∨ q = b + 1 ∨ q = b + 2 ∨ q = b + 3 ∨ q = b + 4) with rfl | rfl | rfl | rfl | rfl
      · exact l 0 (by decide)
      · exact l 1 (by decide)
      · exact l 2 (by decide)
      · exact l 3 (by decide)
      · exact l 4 (by decide)
    rw [upd_ne (Nat.ne_of_lt (Nat.lt_of_lt_of_le hb' hT))]
    exact (away q hq).1
  done := by
    intro X hX hW hKK calm i pins s σ H E I away st hg
    subst hX hW hKK
    obtain ⟨xs, ys, hqx, hqy, hi⟩ := hg
    obtain ⟨hz, hTI, hTO, st1, st2⟩ := st
    obtain ⟨its, rv, p1, _⟩ := I.list hqx
    obtain ⟨its2, rv2, p2, _⟩ := I.tuple hqy
    have l1 := rv.length
    have l2 := rv2.length
    have D1 := Draws.list (prog := X.prog) (w := X.w) (A := X.A.in1) (I.ok.hd calm) b a (Nat.ne_of_lt ha) its.toArray
    have D2 := Draws.tuple (prog := X.prog) (w := X.w) (A := X.A.in1) (I.ok.hd calm) (b + 1) c (Nat.ne_of_lt (Nat.lt_succ_of_lt hc)) its2.toArray
    have W := GoesN.zip2 (elts := elts) (x1 := kk) (pos := tpos) (sepN ha hc) D1 D2
    have ei : i = min its.toArray.size its2.toArray.size := by
      rw [List.size_toArray, List.size_toArray]
      omega
    rw [ei] at st1 st2
    refine W.stops s _ E ⟨hz, hTI, hTO, ⟨st1, p1.isList⟩, ⟨st2, p2⟩⟩ fun h' tk hk htk => ?_
    exact I.turnedL (t' := tk) (ch := [b, b + 1, b + 2, b + 3, b + 4]) (fun q o hq e => hk q o (fun z => hq (by
        rcases (by simpa using z : q = b + 4 ∨ q = b + 3 ∨ q = b ∨ q = b + 1) with rfl | rfl | rfl | rfl <;> simp)) e) away
  self := fun A i s Q E st q => wpAny_pyIter_zip st.1 q
def iZipN (K : PySem.W.Frag) (ta : TA) : TI := fun σ H R => ta σ H fun vs H1 => ∃ a c xs ys, vs = [.ref a, .ref c] ∧ SqL K H1 a xs ∧ SqT K H1 c ys ∧ R (ItzN K a c) H1
theorem pi_zipN {X : Cx} {e e2 : Expr} {ta : TA} {p pos tpos : Pos} {elts : List Expr} {kk : Nat} (hg : Gl X "zip") (hm : X.mg "zip" = none) (ha : PA X [e, e2] ta)
    (hs : starEach [e, e2] X.env = (false, eval e X.env) :: starEach [e2] X.env := by rfl) (hpl : (backTo pos (starEach [e2] X.env)).any (·.1) = false := by rfl) :
    PI X (.Tuple elts kk tpos) (.Call (.Name "zip" p) [e, e2] [] pos) (iZipN X.K ta) := by
  refine ⟨fun pins s σ H R I h => ?_⟩
  refine Call_ (ld_blt I hg hm PyProof.Rows.boot_zip (PyProof.Rows.callWith_type1 (thn (ha.run pos pins s σ H _ I h) fun us s1 ⟨vs, H1, I1, r1, q1⟩ => ?_) hs hpl))
  obtain ⟨a, c, xs, ys, ex, hqx, hqy, q⟩ := q1
  subst ex
  cases r1 with
  | cons r rr =>
    cases rr with
    | cons r' rr =>
      cases rr
      cases r
      cases r'
      obtain ⟨its, rv, p1, _⟩ := I1.list hqx
      obtain ⟨its2, rv2, p2, _⟩ := I1.tuple hqy
      have la : a < s1.heap.objs.size := p1.lt
      have lc : c < s1.heap.objs.size := by
        obtain ⟨o, ho, _⟩ := p2
        exact Heap.lt_size ho
      refine zip_begins2 (begins_list a its.toArray) (begins_tuple c its2.toArray) p1.isList p2 fun h' hz hTI hTO h1 h2 hsz hk => wpAny_pyIter_zip hz ?_
      have I2 : Inv X pins σ H1 { s1 with heap := h' } := I1.kept (t' := s1.toks) hk
      refine ⟨s1.heap.objs.size + 4, [s1.heap.objs.size, s1.heap.objs.size + 1, s1.heap.objs.size + 2, s1.heap.objs.size + 3, s1.heap.objs.size + 4], _, _, H1, rfl, I2, turn_zipN la lc, ⟨hz, hTI, ⟨_, _, hTO⟩, ⟨_, h1, rfl, rfl⟩, ⟨_, h2, rfl, rfl⟩⟩, fun x hx => ?_, q⟩
      have up : s1.heap.objs.size ≤ x := by
        rcases (by simpa using hx : x = s1.heap.objs.size ∨ x = s1.heap.objs.size + 1 ∨ x = s1.heap.objs.size + 2 ∨ x = s1.heap.objs.size + 3 ∨ x = s1.heap.objs.size + 4) with z | z | z | z | z
        · rw [z]; exact Nat.le_refl _
        · rw [z]; exact Nat.le_add_right _ _
        · rw [z]; exact Nat.le_add_right _ _
        · rw [z]; exact Nat.le_add_right _ _
        · rw [z]; exact Nat.le_add_right _ _
      exact I1.fpOk up (I1.hok.fresh up)
theorem walk_zipN {K : PySem.W.Frag} {a c : Addr} {xs ys : List V} {n : Nat} (hn : n = min xs.length ys.length) : Walk (ItzN K a c) n (fun H => SqL K H a xs ∧ SqT K H c ys) (YPair (fun i => xs[i]?) (fun i => ys[i]?)) := by
  subst hn
  refine ⟨fun i H hi q => ⟨xs, ys, xs[i]'(by omega), ys[i]'(by omega), q.1, q.2, by simp [show i < xs.length by omega], by simp [show i < ys.length by omega]⟩, fun H q => ⟨xs, ys, q.1, q.2, rfl⟩, fun i H v H' hi q y => ?_⟩
  obtain ⟨T, x, y, rfl, hT, rfl, h1, h2⟩ := y
  exact ⟨T, x, y, rfl, hT, rfl, h1 xs q.1, h2 ys q.2⟩
end G1
/-! one of two readings; zips as walks -/
namespace G1
open PySem PySem.Spec PyProof.Rows L2 RZ
section
variable {X : Cx}
theorem PE.or {e : Expr} {t1 t2 : TE} (a : PE X e t1) (b : PE X e t2) : PE X e (fun σ H Q => t1 σ H Q ∨ t2 σ H Q) :=
  ⟨fun pins s σ H Q I h => h.elim (fun h => a.run pins s σ H Q I h) (fun h => b.run pins s σ H Q I h)⟩
theorem PI.or {tg e : Expr} {t1 t2 : TI} (a : PI X tg e t1) (b : PI X tg e t2) : PI X tg e (fun σ H R => t1 σ H R ∨ t2 σ H R) :=
  ⟨fun pins s σ H R I h => h.elim (fun h => a.run pins s σ H R I h) (fun h => b.run pins s σ H R I h)⟩
end
section
variable {K : PySem.W.Frag} {a c : Addr} {xs ys : List V}
theorem walk_zipM {n : Nat} (hn : n = min xs.length ys.length) : Walk (ItzM K a c) n (fun H => SqT K H a xs ∧ SqL K H c ys) (YPair (fun i => xs[i]?) (fun i => ys[i]?)) := by
  subst hn
  refine ⟨fun i H hi q => ⟨xs, ys, xs[i]'(by omega), ys[i]'(by omega), q.1, q.2, by simp [show i < xs.length by omega], by simp [show i < ys.length by omega]⟩, fun H q => ⟨xs, ys, q.1, q.2, rfl⟩, fun i H v H' hi q y => ?_⟩
  obtain ⟨T, x, y, rfl, hT, rfl, h1, h2⟩ := y
  exact ⟨T, x, y, rfl, hT, rfl, h1 xs q.1, h2 ys q.2⟩
theorem walk_zipT {n : Nat} (hn : n = min xs.length ys.length) : Walk (ItzT K a c) n (fun H => SqT K H a xs ∧ SqT K H c ys) (YPair (fun i => xs[i]?) (fun i => ys[i]?)) := by
  subst hn
  refine ⟨fun i H hi q => ⟨xs, ys, xs[i]'(by omega), ys[i]'(by omega), q.1, q.2, by simp [show i < xs.length by omega], by simp [show i < ys.length by omega]⟩, fun H q => ⟨xs, ys, q.1, q.2, by omega⟩, fun i H v H' hi q y => ?_⟩
  obtain ⟨T, x, y, rfl, hT, rfl, h1, h2⟩ := y
  exact ⟨T, x, y, rfl, hT, rfl, h1 xs q.1, h2 ys q.2⟩
end
end G1
/-! rows by told sums: states, rounds -/
namespace Sq
def nxt (m : Nat) (fs as : List Nat) : Nat := (List.zipWith (· * ·) fs as.reverse).sum % m
def st (m : Nat) (fs bs : List Nat) : Nat → List Nat
  | 0 => bs
  | n + 1 => (st m fs bs n).tail ++ [nxt m fs (st m fs bs n)]
def xv (m : Nat) (fs bs : List Nat) (n : Nat) : Nat := (st m fs bs n).headD 0
def rw_ (m : Nat) (fs bs : List Nat) (n : Nat) : List Nat := (List.range n).map (xv m fs bs)
structure Rl (m : Nat) (fs bs : List Nat) : Prop where
  m2 : 2 ≤ m
  m9 : m ≤ 9
  f1 : 1 ≤ fs.length
  f4 : fs.length ≤ 4
  fb : bs.length = fs.length
  fm : ∀ f, f ∈ fs → f < m
  bm : ∀ b, b ∈ bs → b < m
  big : m ^ fs.length ≤ 5000
section
variable {m : Nat} {fs bs : List Nat}
theorem nxt_lt (h : 0 < m) (as : List Nat) : nxt m fs as < m := Nat.mod_lt _ h
theorem st_len (r : Rl m fs bs) : ∀ n, (st m fs bs n).length = fs.length
  | 0 => r.fb
  | n + 1 => by
    have := r.f1
    simp only [st, List.length_append, List.length_tail, st_len r n, List.length_cons, List.length_nil]
    omega
theorem st_lt (r : Rl m fs bs) : ∀ n v, v ∈ st m fs bs n → v < m
  | 0, v, h => r.bm v h
  | n + 1, v, h => by
    have := r.m2
    simp only [st, List.mem_append, List.mem_singleton] at h
    rcases h with h | h
    · exact st_lt r n v (List.mem_of_mem_tail h)
    · rw [h]
      exact nxt_lt (by omega) _
theorem st_shift (r : Rl m fs bs) (n i : Nat) (h : i + 1 < fs.length) : (st m fs bs (n + 1))[i]? = (st m fs bs n)[i + 1]? := by
  have l := st_len r n
  simp only [st]
  rw [List.getElem?_append_left (by rw [List.length_tail]; omega), List.getElem?_tail]
theorem st_last (r : Rl m fs bs) (n : Nat) : (st m fs bs (n + 1))[fs.length - 1]? = some (nxt m fs (st m fs bs n)) := by
  have l := st_len r n
  have f1 := r.f1
  simp only [st]
  rw [List.getElem?_append_right (by rw [List.length_tail]; omega), List.length_tail, l, Nat.sub_self]
  rfl
theorem st_get (r : Rl m fs bs) : ∀ i n, i < fs.length → (st m fs bs n)[i]? = some (xv m fs bs (n + i))
  | 0, n, h => by
    have l := st_len r n
    unfold xv
    rw [Nat.add_zero]
    cases e : st m fs bs n with
    | nil => rw [e] at l; simp at l; omega
    | cons a as => rfl
  | i + 1, n, h => by
    rw [← st_shift r n i h, st_get r i (n + 1) (by omega)]
    congr 2
    omega
theorem x_next (r : Rl m fs bs) (n : Nat) : xv m fs bs (n + fs.length) = nxt m fs (st m fs bs n) := by
  have f1 := r.f1
  have h := st_get r (fs.length - 1) (n + 1) (by omega)
  rw [st_last r n] at h
  have e := Option.some.inj h
  rw [e]
  congr 1
  omega
theorem x_lt (r : Rl m fs bs) (n : Nat) : xv m fs bs n < m := by
  have h := st_get r 0 n r.f1
  rw [Nat.add_zero] at h
  exact st_lt r n _ (List.mem_of_getElem? h)
theorem rw_len (n : Nat) : (rw_ m fs bs n).length = n := by unfold rw_; rw [List.length_map, List.length_range]
theorem rw_succ (n : Nat) : rw_ m fs bs (n + 1) = rw_ m fs bs n ++ [xv m fs bs n] := by unfold rw_; rw [List.range_succ, List.map_append]; rfl
theorem rw_get {n i : Nat} (h : i < n) : (rw_ m fs bs n)[i]? = some (xv m fs bs i) := by
  unfold rw_
  rw [List.getElem?_map, List.getElem?_range h]
  rfl
theorem rw_take (n k : Nat) : (rw_ m fs bs n).take k = rw_ m fs bs (min k n) := by
  apply List.ext_getElem?
  intro i
  rw [List.getElem?_take]
  by_cases h : i < k
  · rw [if_pos h]
    by_cases h2 : i < n
    · rw [rw_get h2, rw_get (by omega)]
    · rw [List.getElem?_eq_none (by rw [rw_len]; omega), List.getElem?_eq_none (by rw [rw_len]; omega)]
  · rw [if_neg h, List.getElem?_eq_none (by rw [rw_len]; omega)]
theorem st_row (r : Rl m fs bs) (n : Nat) : (rw_ m fs bs (n + fs.length)).drop n = st m fs bs n := by
  apply List.ext_getElem?
  intro i
  rw [List.getElem?_drop]
  by_cases h : i < fs.length
  · rw [rw_get (by omega), st_get r i n h]
  · rw [List.getElem?_eq_none (by rw [rw_len]; omega), List.getElem?_eq_none (by rw [st_len r]; omega)]
theorem rw_begin (r : Rl m fs bs) : rw_ m fs bs fs.length = bs := by
  have h := st_row r 0
  rw [Nat.zero_add, List.drop_zero] at h
  exact h
theorem rw_mid (r : Rl m fs bs) {n N : Nat} (h : n + fs.length ≤ N) : ((rw_ m fs bs N).take (n + fs.length)).drop n = st m fs bs n := by
  rw [rw_take, Nat.min_eq_left h, st_row r]

/-! ### rounds -/
structure IsRound (m : Nat) (fs bs : List Nat) (h t : Nat) : Prop where
  t1 : 1 ≤ t
  eq : st m fs bs (h + t) = st m fs bs h
  ne : ∀ i j, i < j → j < h + t → st m fs bs i ≠ st m fs bs j
theorem IsRound.uniq {h t h' t' : Nat} (a : IsRound m fs bs h t) (b : IsRound m fs bs h' t') : h = h' ∧ t = t' := by
  have a1 := a.t1
  have b1 := b.t1
  have e : h + t = h' + t' := by
    rcases Nat.lt_trichotomy (h + t) (h' + t') with c | c | c
    · exact absurd a.eq.symm (b.ne h (h + t) (by omega) c)
    · exact c
    · exact absurd b.eq.symm (a.ne h' (h' + t') (by omega) c)
  have e2 : h = h' := by
    rcases Nat.lt_trichotomy h h' with c | c | c
    · exact absurd (by rw [← a.eq, ← b.eq, e]) (a.ne h h' c (by omega))
    · exact c
    · exact absurd (by rw [← b.eq, ← a.eq, e]) (a.ne h' h c (by omega))
  exact ⟨e2, by omega⟩
/-! pigeonholes -/
theorem nodup_le : ∀ (N : Nat) (l : List Nat), l.Nodup → (∀ x, x ∈ l → x < N) → l.length ≤ N
  | 0, [], _, _ => Nat.le_refl _
  | 0, a :: l, _, h => absurd (h a List.mem_cons_self) (Nat.not_lt_zero _)
  | N + 1, l, nd, h => by
    have h2 := nodup_le N (l.filter (fun x => x != N)) (nd.sublist List.filter_sublist) (fun x hx => by
      have := List.mem_filter.mp hx
      have a := h x this.1
      have b : x ≠ N := by simpa using this.2
      omega)
    have key : ∀ l : List Nat, l.Nodup → l.length ≤ (l.filter (fun x => x != N)).length + 1 := by
      intro l
      induction l with
      | nil => intro _; simp
      | cons a l ih =>
        intro nd
        rw [List.nodup_cons] at nd
        by_cases e : a = N
        · subst e
          have : l.filter (fun x => x != a) = l := by
            rw [List.filter_eq_self]
            intro x hx
            have : x ≠ a := fun z => nd.1 (z ▸ hx)
            simpa using this
          rw [List.filter_cons_of_neg (by simp), this]
          simp
        · rw [List.filter_cons_of_pos (by simpa using e)]
          have := ih nd.2
          simp only [List.length_cons]
          omega
    have := key l nd
    omega
def code (m : Nat) : List Nat → Nat
  | [] => 0
  | a :: l => a + m * code m l
theorem code_lt (h : 0 < m) : ∀ l : List Nat, (∀ v, v ∈ l → v < m) → code m l < m ^ l.length
  | [], _ => by simp [code]
  | a :: l, hl => by
    have h1 := hl a List.mem_cons_self
    have h2 := code_lt h l fun v hv => hl v (List.mem_cons_of_mem _ hv)
    simp only [code, List.length_cons, Nat.pow_succ]
    have : m * (code m l + 1) ≤ m * m ^ l.length := Nat.mul_le_mul_left _ h2
    rw [Nat.mul_comm (m ^ l.length)]
    rw [Nat.mul_add, Nat.mul_one] at this
    omega
theorem code_inj (h : 0 < m) : ∀ l k : List Nat, l.length = k.length → (∀ v, v ∈ l → v < m) → (∀ v, v ∈ k → v < m) → code m l = code m k → l = k
  | [], [], _, _, _, _ => rfl
  | [], _ :: _, e, _, _, _ => by cases e
  | _ :: _, [], e, _, _, _ => by cases e
  | a :: l, b :: k, e, hl, hk, q => by
    have h1 := hl a List.mem_cons_self
    have h2 := hk b List.mem_cons_self
    simp only [code] at q
    have e1 : a = b := by
      have := congrArg (· % m) q
      simp only [Nat.add_mul_mod_self_left, Nat.mod_eq_of_lt h1, Nat.mod_eq_of_lt h2] at this
      exact this
    subst e1
    have e2 : code m l = code m k := Nat.eq_of_mul_eq_mul_left h (by omega)
    rw [code_inj h l k (by simpa using e) (fun v hv => hl v (List.mem_cons_of_mem _ hv)) (fun v hv => hk v (List.mem_cons_of_mem _ hv)) e2]
theorem ne_bound (r : Rl m fs bs) {n : Nat} (ne : ∀ i j, i < j → j < n → st m fs bs i ≠ st m fs bs j) : n ≤ m ^ fs.length := by
  have m2 := r.m2
  have nd : ((List.range n).map fun i => code m (st m fs bs i)).Nodup := by
    refine List.pairwise_iff_getElem.mpr fun i j hi hj hij => ?_
    rw [List.length_map, List.length_range] at hj
    rw [List.getElem_map, List.getElem_map, List.getElem_range, List.getElem_range]
    intro q2
    exact ne i j hij hj (code_inj (by omega) _ _ (by rw [st_len r, st_len r]) (st_lt r i) (st_lt r j) q2)
  have := nodup_le (m ^ fs.length) _ nd (fun x hx => by
    obtain ⟨i, _, rfl⟩ := List.mem_map.mp hx
    have := code_lt (m := m) (by omega) (st m fs bs i) (st_lt r i)
    rw [st_len r] at this
    exact this)
  rwa [List.length_map, List.length_range] at this
theorem IsRound.le (r : Rl m fs bs) {h t : Nat} (a : IsRound m fs bs h t) : h + t ≤ m ^ fs.length := ne_bound r a.ne
theorem st_congr {a b : Nat} (e : st m fs bs a = st m fs bs b) : ∀ k, st m fs bs (a + k) = st m fs bs (b + k)
  | 0 => e
  | k + 1 => by
    show st m fs bs (a + k + 1) = st m fs bs (b + k + 1)
    simp only [st]
    rw [st_congr e k]
theorem x_congr {a b : Nat} (e : st m fs bs a = st m fs bs b) (k : Nat) : xv m fs bs (a + k) = xv m fs bs (b + k) := by
  unfold xv
  rw [st_congr e k]
theorem IsRound.per {h t : Nat} (a : IsRound m fs bs h t) (n : Nat) (hn : h ≤ n) : xv m fs bs (n + t) = xv m fs bs n := by
  have := x_congr a.eq (n - h)
  rw [show h + t + (n - h) = n + t by omega, show h + (n - h) = n by omega] at this
  exact this
theorem IsRound.perk {h t : Nat} (a : IsRound m fs bs h t) (k i : Nat) : xv m fs bs (h + (i + t * k)) = xv m fs bs (h + i) := by
  induction k with
  | zero => rfl
  | succ k ih =>
    rw [← ih, ← a.per (h + (i + t * k)) (by omega)]
    congr 1
    rw [Nat.mul_succ]
    omega
theorem IsRound.mod {h t : Nat} (a : IsRound m fs bs h t) (i : Nat) : xv m fs bs (h + i) = xv m fs bs (h + i % t) := by
  have := a.perk (i / t) (i % t)
  rw [Nat.mod_add_div] at this
  exact this
theorem st_eq_of (r : Rl m fs bs) {a b : Nat} (e : ∀ i, i < fs.length → xv m fs bs (a + i) = xv m fs bs (b + i)) : st m fs bs a = st m fs bs b := by
  apply List.ext_getElem?
  intro i
  by_cases h : i < fs.length
  · rw [st_get r i a h, st_get r i b h, e i h]
  · rw [List.getElem?_eq_none (by rw [st_len r]; omega), List.getElem?_eq_none (by rw [st_len r]; omega)]
/-- the number ahead of the round is another one -/
theorem IsRound.ahead (r : Rl m fs bs) {h t : Nat} (a : IsRound m fs bs h t) (h0 : 0 < h) : xv m fs bs (h - 1) ≠ xv m fs bs (h - 1 + t) := by
  intro q
  have t1 := a.t1
  refine a.ne (h - 1) (h - 1 + t) (by omega) (by omega) (st_eq_of r fun i hi => ?_)
  cases i with
  | zero => exact q
  | succ i =>
    have := x_congr a.eq i
    rw [show h - 1 + (i + 1) = h + i by omega, show h - 1 + t + (i + 1) = h + t + i by omega, this]
/-- no lesser turn -/
theorem IsRound.no_less (r : Rl m fs bs) {h t s : Nat} (a : IsRound m fs bs h t) (s1 : 1 ≤ s) (st_ : s < t) (d : t % s = 0) (q : ∀ i, i < t → xv m fs bs (h + i) = xv m fs bs (h + i % s)) : False := by
  have t1 := a.t1
  have all : ∀ i, xv m fs bs (h + i) = xv m fs bs (h + i % s) := fun i => by
    rw [a.mod i, q _ (Nat.mod_lt _ (by omega)), Nat.mod_mod_of_dvd _ (Nat.dvd_of_mod_eq_zero d)]
  refine a.ne h (h + s) (by omega) (by omega) (st_eq_of r fun i hi => ?_)
  rw [all i, show h + s + i = h + (i + s) by omega, all (i + s), Nat.add_mod_right]
theorem mul_cancel {p f a b c : Nat} (hp : p = 2 ∨ p = 3 ∨ p = 5 ∨ p = 7) (f0 : 0 < f) (fp : f < p) (ha : a < p) (hb : b < p) (q : (c + f * a) % p = (c + f * b) % p) : a = b := by
  have q2 : (f * a) % p = (f * b) % p := by
    rcases hp with rfl | rfl | rfl | rfl <;> omega
  have d2 : ∀ f < 2, 0 < f → ∀ a < 2, ∀ b < 2, (f * a) % 2 = (f * b) % 2 → a = b := by decide
  have d3 : ∀ f < 3, 0 < f → ∀ a < 3, ∀ b < 3, (f * a) % 3 = (f * b) % 3 → a = b := by decide
  have d5 : ∀ f < 5, 0 < f → ∀ a < 5, ∀ b < 5, (f * a) % 5 = (f * b) % 5 → a = b := by decide
  have d7 : ∀ f < 7, 0 < f → ∀ a < 7, ∀ b < 7, (f * a) % 7 = (f * b) % 7 → a = b := by decide
  rcases hp with rfl | rfl | rfl | rfl
  · exact d2 f fp f0 a ha b hb q2
  · exact d3 f fp f0 a ha b hb q2
  · exact d5 f fp f0 a ha b hb q2
  · exact d7 f fp f0 a ha b hb q2
theorem nxt_split (r : Rl m fs bs) (gs as : List Nat) (fl a : Nat) (e : fs = gs ++ [fl]) (l : as.length = gs.length) : nxt m fs (a :: as) = ((List.zipWith (· * ·) gs as.reverse).sum + fl * a) % m := by
  unfold nxt
  rw [e, List.reverse_cons, List.zipWith_append (by rw [List.length_reverse]; exact l.symm), List.sum_append]
  simp
/-- by a prime, the last factor not 0, a row comes round from the start -/
theorem IsRound.zero (r : Rl m fs bs) {h t fl : Nat} (a : IsRound m fs bs h t) (hp : m = 2 ∨ m = 3 ∨ m = 5 ∨ m = 7) (hf : fs[fs.length - 1]? = some fl) (f0 : 0 < fl) : h = 0 := by
  refine Classical.byContradiction fun h0 => ?_
  have f1 := r.f1
  obtain ⟨gs, e⟩ : ∃ gs, fs = gs ++ [fl] := by
    refine ⟨fs.dropLast, ?_⟩
    have hne : fs ≠ [] := fun z => by rw [z] at f1; simp at f1
    have := List.dropLast_concat_getLast hne
    rw [List.getLast_eq_getElem] at this
    obtain ⟨_, e2⟩ := List.getElem?_eq_some_iff.mp hf
    rw [e2] at this
    exact this.symm
  have hk : fs.length = gs.length + 1 := by rw [e]; simp
  refine a.ahead r (by omega) ?_
  have flm : fl < m := r.fm fl (List.mem_of_getElem? hf)
  have s1 := x_next r (h - 1)
  have s2 := x_next r (h - 1 + t)
  have eqx : xv m fs bs (h - 1 + fs.length) = xv m fs bs (h - 1 + t + fs.length) := by
    have := x_congr a.eq (fs.length - 1)
    rw [show h - 1 + t + fs.length = h + t + (fs.length - 1) by omega, this]
    congr 1
    omega
  have shape : ∀ n, st m fs bs n = xv m fs bs n :: (st m fs bs n).tail := fun n => by
    have g := st_get r 0 n (by omega)
    rw [Nat.add_zero] at g
    cases c : st m fs bs n with
    | nil => rw [c] at g; cases g
    | cons u us =>
      rw [c] at g
      have := Option.some.inj g
      rw [List.tail_cons, ← this]
  have tails : (st m fs bs (h - 1)).tail = (st m fs bs (h - 1 + t)).tail := by
    apply List.ext_getElem?
    intro i
    rw [List.getElem?_tail, List.getElem?_tail]
    by_cases hi : i + 1 < fs.length
    · rw [st_get r (i + 1) _ hi, st_get r (i + 1) _ hi]
      have := x_congr a.eq i
      rw [show h - 1 + (i + 1) = h + i by omega, show h - 1 + t + (i + 1) = h + t + i by omega, this]
    · rw [List.getElem?_eq_none (by rw [st_len r]; omega), List.getElem?_eq_none (by rw [st_len r]; omega)]
  have lt : (st m fs bs (h - 1)).tail.length = gs.length := by rw [List.length_tail, st_len r]; omega
  rw [s1, s2, shape (h - 1), shape (h - 1 + t), nxt_split r gs _ fl _ e lt, nxt_split r gs _ fl _ e (by rw [← tails]; exact lt), tails] at eqx
  exact mul_cancel hp f0 flm (x_lt r _) (x_lt r _) eqx
end
end Sq
/-! numbers of a row far out, by powers of the unknown -/
namespace Sq
section
variable {m : Nat} {fs bs : List Nat}
/-- the numbers from s on by these weights -/
def wsum (m : Nat) (fs bs : List Nat) : List Nat → Nat → Nat
  | [], _ => 0
  | a :: w, s => a * xv m fs bs s + wsum m fs bs w (s + 1)
theorem wsum_append : ∀ (u w : List Nat) (s : Nat), wsum m fs bs (u ++ w) s = wsum m fs bs u s + wsum m fs bs w (s + u.length)
  | [], w, s => by simp [wsum]
  | a :: u, w, s => by
    simp only [List.cons_append, wsum, wsum_append u w (s + 1), List.length_cons]
    rw [show s + 1 + u.length = s + (u.length + 1) by omega]
    omega
theorem wsum_take {w : List Nat} {i a : Nat} (h : w[i]? = some a) (s : Nat) : wsum m fs bs (w.take (i + 1)) s = wsum m fs bs (w.take i) s + a * xv m fs bs (s + i) := by
  rw [List.take_add_one, h, wsum_append]
  have l : (w.take i).length = i := by
    have := (List.getElem?_eq_some_iff.mp h).1
    rw [List.length_take]
    omega
  rw [l]
  simp [wsum]
theorem wsum_set : ∀ {w : List Nat} {q a : Nat} (h : w[q]? = some a) (v s : Nat), wsum m fs bs (w.set q (a + v)) s = wsum m fs bs w s + v * xv m fs bs (s + q)
  | [], q, a, h, v, s => by simp at h
  | b :: w, 0, a, h, v, s => by
    have : b = a := Option.some.inj h
    subst this
    simp only [List.set_cons_zero, wsum, Nat.add_mul, Nat.add_zero]
    omega
  | b :: w, q + 1, a, h, v, s => by
    have h' : w[q]? = some a := h
    simp only [List.set_cons_succ, wsum, wsum_set h' v (s + 1)]
    rw [show s + 1 + q = s + (q + 1) by omega]
    omega
theorem wsum_zeros : ∀ (n s : Nat), wsum m fs bs (List.replicate n 0) s = 0
  | 0, s => rfl
  | n + 1, s => by simp [List.replicate_succ, wsum, wsum_zeros n (s + 1)]
/-- congruent -/
def Cg (m a b : Nat) : Prop := a % m = b % m
theorem Cg.add {a b c d : Nat} (h : Cg m a b) (k : Cg m c d) : Cg m (a + c) (b + d) := by
  unfold Cg at *
  rw [Nat.add_mod, h, k, ← Nat.add_mod]
theorem Cg.mul {a b : Nat} (c : Nat) (h : Cg m a b) : Cg m (c * a) (c * b) := by
  unfold Cg at *
  rw [Nat.mul_mod, h, ← Nat.mul_mod]
theorem Cg.mod (a : Nat) : Cg m (a % m) a := Nat.mod_mod ..
theorem Cg.refl (a : Nat) : Cg m a a := rfl
theorem Cg.trans {a b c : Nat} (h : Cg m a b) (k : Cg m b c) : Cg m a c := Eq.trans h k
theorem Cg.symm {a b : Nat} (h : Cg m a b) : Cg m b a := Eq.symm h
/-- the weights tell the number that is so much further on -/
def Tells (m : Nat) (fs bs p : List Nat) (e : Nat) : Prop := ∀ s, Cg m (wsum m fs bs p s) (xv m fs bs (s + e))
theorem tells_one (k : Nat) : Tells m fs bs (1 :: List.replicate k 0) 0 := fun s => by
  unfold Cg
  simp [wsum, wsum_zeros]
theorem wsum_mod : ∀ (w : List Nat) (s : Nat), Cg m (wsum m fs bs (w.map (· % m)) s) (wsum m fs bs w s)
  | [], s => rfl
  | a :: w, s => by
    simp only [List.map_cons, wsum]
    refine Cg.add ?_ (wsum_mod w (s + 1))
    rw [Nat.mul_comm (a % m), Nat.mul_comm a]
    exact Cg.mul _ (Cg.mod a)
/-- the square, so far -/
def sqs (m : Nat) (fs bs p : List Nat) (two : Nat) : Nat → Nat → Nat
  | 0, _ => 0
  | i + 1, s => sqs m fs bs p two i s + p.getD i 0 * wsum m fs bs p (s + i + two)
theorem sqs_cg {p : List Nat} {e two : Nat} (t : Tells m fs bs p e) : ∀ i, i ≤ p.length → ∀ s, Cg m (sqs m fs bs p two i s) (wsum m fs bs (p.take i) (s + two + e))
  | 0, _, s => by simp [sqs, wsum, Cg]
  | i + 1, h, s => by
    have g : p[i]? = some (p.getD i 0) := by
      rw [List.getD_eq_getElem?_getD, List.getElem?_eq_getElem (by omega)]
      rfl
    rw [wsum_take g]
    simp only [sqs]
    refine (sqs_cg t i (by omega) s).add (Cg.mul _ ((t (s + i + two)).trans ?_))
    rw [show s + i + two + e = s + two + e + i by omega]
    exact Cg.refl _
theorem sqs_all {p : List Nat} {e two : Nat} (t : Tells m fs bs p e) (s : Nat) : Cg m (sqs m fs bs p two p.length s) (xv m fs bs (s + (2 * e + two))) := by
  have h := sqs_cg (two := two) t p.length (Nat.le_refl _) s
  rw [List.take_length] at h
  have h2 := t (s + two + e)
  rw [show s + two + e + e = s + (2 * e + two) by omega] at h2
  exact h.trans h2
/-- what the rule says, the factors so far -/
def fsum (m : Nat) (fs bs : List Nat) : Nat → Nat → Nat
  | 0, _ => 0
  | k + 1, q => fsum m fs bs k q + fs.getD k 0 * xv m fs bs (q - 1 - k)
theorem zip_sum_take {f a : List Nat} {i x y : Nat} (hx : f[i]? = some x) (hy : a[i]? = some y) : (List.zipWith (· * ·) (f.take (i + 1)) (a.take (i + 1))).sum = (List.zipWith (· * ·) (f.take i) (a.take i)).sum + x * y := by
  have l1 := (List.getElem?_eq_some_iff.mp hx).1
  have l2 := (List.getElem?_eq_some_iff.mp hy).1
  rw [List.take_add_one, List.take_add_one, hx, hy, List.zipWith_append (by rw [List.length_take, List.length_take]; omega), List.sum_append]
  simp
theorem fsum_zip (r : Rl m fs bs) (n : Nat) : ∀ k, k ≤ fs.length → fsum m fs bs k (n + fs.length) = (List.zipWith (· * ·) (fs.take k) ((st m fs bs n).reverse.take k)).sum
  | 0, _ => by simp [fsum]
  | k + 1, h => by
    have g : fs[k]? = some (fs.getD k 0) := by
      rw [List.getD_eq_getElem?_getD, List.getElem?_eq_getElem (by omega)]
      rfl
    have g2 : (st m fs bs n).reverse[k]? = some (xv m fs bs (n + fs.length - 1 - k)) := by
      rw [List.getElem?_reverse (by rw [st_len r]; omega), st_len r, st_get r _ n (by omega)]
      congr 2
      omega
    rw [zip_sum_take g g2]
    simp only [fsum, fsum_zip r n k (by omega)]
theorem fsum_all (r : Rl m fs bs) (q : Nat) (hq : fs.length ≤ q) : Cg m (fsum m fs bs fs.length q) (xv m fs bs q) := by
  have h := fsum_zip r (q - fs.length) fs.length (Nat.le_refl _)
  rw [show q - fs.length + fs.length = q by omega, List.take_length, List.take_of_length_le (by rw [List.length_reverse, st_len r]; exact Nat.le_refl _)] at h
  have x := x_next r (q - fs.length)
  rw [show q - fs.length + fs.length = q by omega] at x
  unfold Cg
  rw [h, x]
  unfold nxt
  rw [Nat.mod_mod]
/-- a number by its figures of two, the lowest first -/
def val : List Nat → Nat
  | [] => 0
  | b :: l => b + 2 * val l
theorem val_snoc : ∀ (l : List Nat) (b : Nat), val (l ++ [b]) = val l + 2 ^ l.length * b
  | [], b => by simp [val]
  | a :: l, b => by
    simp only [List.cons_append, val, val_snoc l b, List.length_cons, Nat.pow_succ]
    rw [Nat.mul_add, ← Nat.mul_assoc, Nat.mul_comm 2 (2 ^ l.length)]
    omega
theorem val_drop {l : List Nat} {i b : Nat} (h : l[i]? = some b) : val (l.drop i) = b + 2 * val (l.drop (i + 1)) := by
  obtain ⟨hi, e⟩ := List.getElem?_eq_some_iff.mp h
  rw [List.drop_eq_getElem_cons hi, e]
  rfl
theorem wsum_begin (r : Rl m fs bs) : ∀ (p : List Nat) (i : Nat), p.length + i = fs.length → wsum m fs bs p i = (List.zipWith (· * ·) p (bs.drop i)).sum
  | [], i, _ => by simp [wsum]
  | a :: p, i, h => by
    have hi : i < fs.length := by simp at h; omega
    have g := st_get r i 0 hi
    rw [Nat.zero_add] at g
    have g' : bs[i]? = some (xv m fs bs i) := g
    obtain ⟨hb, e⟩ := List.getElem?_eq_some_iff.mp g'
    rw [List.drop_eq_getElem_cons hb, e]
    simp only [wsum, List.zipWith_cons_cons, List.sum_cons]
    rw [wsum_begin r p (i + 1) (by simp at h; omega)]
theorem tells_end (r : Rl m fs bs) {p : List Nat} {e : Nat} (t : Tells m fs bs p e) (l : p.length = fs.length) : (List.zipWith (· * ·) p bs).sum % m = xv m fs bs e := by
  have h := t 0
  rw [wsum_begin r p 0 (by omega), List.drop_zero, Nat.zero_add] at h
  unfold Cg at h
  rw [h, Nat.mod_eq_of_lt (x_lt r e)]
end
end Sq
/-! xs[i] += e of a list -/
namespace G1
open PySem PySem.Spec PyProof.Rows L2
def rGetL (K : PySem.W.Frag) : V → V → Hp → VK → Prop := fun o i H Q => ∃ (p : Addr) (xs : List V) (k : Nat) (v : V), o = .ref p ∧ i = .int (k : Int) ∧ SqL K H p xs ∧ xs[k]? = some v ∧ Q v H
section
variable {X : Cx}
theorem get_list : PGet X (rGetL X.K) := by
  intro pins s σ H o i ov iv Q I ro ri h
  obtain ⟨p, xs, k, v, rfl, rfl, hp, hk, q⟩ := h
  cases ro
  obtain ⟨t, rfl⟩ := ri
  obtain ⟨its, r, pl, hz⟩ := I.list hp
  obtain ⟨u, hu, ru⟩ := r.get hk
  have hl := r.length
  have hn := line63
  have hk2 := (List.getElem?_eq_some_iff.mp hk).1
  exact getItem_listL pl.isList (by omega) (by omega) (by rw [Int.toNat_natCast]; exact hu) ⟨v, H, I, ru, q⟩
end
end G1
/-! repr of small numbers, tuples of them, tables beside one another -/
namespace G1
open PySem PySem.Spec PyProof.Rows L2
theorem small_int {i : Int} (h0 : 0 ≤ i) (h1 : i ≤ 10000) : Small (.int i) := by
  refine ⟨?_, rfl, by simp [PyData.depth], ?_, ?_⟩
  · simp only [PyData.showable]
    exact decide_eq_true (log_small h0 (by omega))
  · show decide ((PyData.shown (.int i)).length ≤ 8) = true
    rw [decide_eq_true_eq]
    have e := PyProof.Rows.toString_length_le h0 (k := 5) (by decide) (by omega)
    have e2 : (PyData.shown (.int i)).length = (Str.ofString (toString i)).length := rfl
    omega
  · show (if i == 0 then 0 else i.natAbs.log2 + 1) ≤ 20000
    split
    · omega
    · have z : i.natAbs ≠ 0 := fun e => by
        rename_i hz
        exact hz (by rw [Int.natAbs_eq_zero.mp e]; rfl)
      have : i.natAbs.log2 < 64 := (Nat.log2_lt z).mpr (by omega)
      omega
/-- a tuple of small data -/
theorem small_tup {ds : List PyData} (h : ∀ d ∈ ds, Small d ∧ d.weight ≤ 100 ∧ d.depth ≤ 3) (hl : ds.length ≤ 20) : Small (.tuple ds) := by
  obtain ⟨h1, h2, h3, h4, h5⟩ := small_all ds fun d hd => (h d hd).1
  have w : ∀ ds : List PyData, (∀ d ∈ ds, d.weight ≤ 100 ∧ d.depth ≤ 3) → PyData.weightAll ds ≤ 101 * ds.length ∧ PyData.depthAll ds ≤ 3 := by
    intro ds
    induction ds with
    | nil => intro _; simp [PyData.weightAll, PyData.depthAll]
    | cons d ds ih =>
      intro hd
      have a := hd d List.mem_cons_self
      have b := ih fun e he => hd e (List.mem_cons_of_mem _ he)
      refine ⟨?_, ?_⟩
      · simp only [PyData.weightAll, List.length_cons]
        omega
      · simp only [PyData.depthAll]
        omega
  obtain ⟨w1, w2⟩ := w ds fun d hd => (h d hd).2
  refine ⟨?_, ?_, ?_, ?_, ?_⟩
  · simp only [PyData.showable]; exact h1
  · simp only [PyData.hasDict]; exact h2
  · simp only [PyData.depth]; omega
  · simp only [PyData.leavesShort]; exact h4
  · simp only [PyData.weight]
    have : 101 * ds.length ≤ 101 * 20 := Nat.mul_le_mul_left _ hl
    omega
theorem int_fit {i : Int} (h0 : 0 ≤ i) (h1 : i ≤ 10000) : Small (.int i) ∧ PyData.weight (.int i) ≤ 20 ∧ PyData.depth (.int i) ≤ 1 := by
  refine ⟨small_int h0 h1, ?_, by simp [PyData.depth]⟩
  show (if i == 0 then 0 else i.natAbs.log2 + 1) ≤ 20
  split
  · omega
  · have z : i.natAbs ≠ 0 := fun e => by
      rename_i hz
      exact hz (by rw [Int.natAbs_eq_zero.mp e]; rfl)
    have : i.natAbs.log2 < 14 := (Nat.log2_lt z).mpr (by omega)
    omega
def dKs (ks : List Nat) : PyData := .tuple (ks.map fun k => PyData.int (k : Nat))
theorem dp_ks {K : PySem.W.Frag} {H : Hp} : ∀ ks : List Nat, DpAll K H (ks.map fun k => V.int (k : Nat)) (ks.map fun k => PyData.int (k : Nat))
  | [] => .nil
  | k :: ks => .cons (.int _) (dp_ks ks)
theorem small_ks {ks : List Nat} (h : ∀ k ∈ ks, k ≤ 10000) (hl : ks.length ≤ 20) : Small (dKs ks) := small_tup (fun d hd => by
  obtain ⟨k, hk, rfl⟩ := List.mem_map.mp hd
  have a := int_fit (i := (k : Int)) (by omega) (by have := h k hk; omega)
  exact ⟨a.1, by have := a.2.1; omega, by have := a.2.2; omega⟩) (by rw [List.length_map]; exact hl)

/-- two tables -/
@[irreducible] def dT2 (a b c d : List Bool) : PyData := .list [dTab a b, dTab c d]
theorem repr_t2 {K : PySem.W.Frag} {H : Hp} {R : PyData → Prop} {l p p' : Addr} {a b c d : List Bool} (e : H l = some (.lst [.ref p, .ref p'])) (h1 : H p = some (.tup [.str (B a), .str (B b)])) (h2 : H p' = some (.tup [.str (B c), .str (B d)]))
    (l1 : a.length ≤ 5000) (l2 : b.length ≤ 5000) (l3 : c.length ≤ 5000) (l4 : d.length ≤ 5000) (q : R (dT2 a b c d)) :
    ∃ (a' : Addr) (d' : PyData), [V.ref l] = [V.ref a'] ∧ Dp K H (.ref a') d' ∧ d'.showable = true ∧ d'.hasDict = false ∧ d'.depth ≤ 60 ∧ d'.shown.length ≤ sizeLine ∧ R d' := by
  unfold dT2 at q
  exact repr_items [dTab a b, dTab c d] e (.cons (dp_tab h1) (.cons (dp_tab h2) .nil)) (List.forall_mem_cons.mpr ⟨small_tab l1 l2, List.forall_mem_cons.mpr ⟨small_tab l3 l4, fun _ z => by cases z⟩⟩) (by simp) q
/-- a tuple of small numbers -/
theorem repr_ks {K : PySem.W.Frag} {H : Hp} {R : PyData → Prop} {p : Addr} {ks : List Nat} (h1 : H p = some (.tup (ks.map fun k => V.int (k : Nat)))) (h : ∀ k ∈ ks, k ≤ 10000) (hl : ks.length ≤ 20) (q : R (dKs ks)) :
    ∃ (a' : Addr) (d' : PyData), [V.ref p] = [V.ref a'] ∧ Dp K H (.ref a') d' ∧ d'.showable = true ∧ d'.hasDict = false ∧ d'.depth ≤ 60 ∧ d'.shown.length ≤ sizeLine ∧ R d' := by
  have sm := small_ks h hl
  exact go_repr (dKs ks) (.tup (sqT_of h1) (dp_ks ks)) sm.sh sm.nd (Nat.le_trans sm.dp (by decide)) sm.lv (Nat.le_trans sm.wt (by decide)) q
/-- a tuple of small numbers, its text never unfolded -/
@[irreducible] def dKi (ks : List Nat) : PyData := dKs ks
theorem repr_ki {K : PySem.W.Frag} {H : Hp} {R : PyData → Prop} {p : Addr} {ks : List Nat} (h1 : H p = some (.tup (ks.map fun k => V.int (k : Nat)))) (h : ∀ k ∈ ks, k ≤ 10000) (hl : ks.length ≤ 20) (q : R (dKi ks)) :
    ∃ (a' : Addr) (d' : PyData), [V.ref p] = [V.ref a'] ∧ Dp K H (.ref a') d' ∧ d'.showable = true ∧ d'.hasDict = false ∧ d'.depth ≤ 60 ∧ d'.shown.length ≤ sizeLine ∧ R d' := by
  unfold dKi at q
  exact repr_ks h1 h hl q

/-- figures in a tuple, many of them -/
theorem dig_all : ∀ l : List Nat, (∀ k ∈ l, k ≤ 9) → PyData.showableAll (l.map fun k => PyData.int (k : Nat)) = true ∧ PyData.hasDictAll (l.map fun k => PyData.int (k : Nat)) = false ∧ PyData.depthAll (l.map fun k => PyData.int (k : Nat)) = 0 ∧
    PyData.leavesShortAll 8 (l.map fun k => PyData.int (k : Nat)) = true ∧ PyData.weightAll (l.map fun k => PyData.int (k : Nat)) ≤ 21 * l.length
  | [], _ => by simp [PyData.showableAll, PyData.hasDictAll, PyData.depthAll, PyData.leavesShortAll, PyData.weightAll]
  | k :: l, h => by
    obtain ⟨h1, h2, h3, h4, h5⟩ := dig_all l fun e he => h e (List.mem_cons_of_mem _ he)
    have k9 := h k List.mem_cons_self
    obtain ⟨a, w, d⟩ := int_fit (i := (k : Int)) (by omega) (by omega)
    have a1 := a.sh
    have a4 := a.lv
    refine ⟨?_, ?_, ?_, ?_, ?_⟩
    · simp only [List.map_cons, PyData.showableAll, h1, a1, Bool.and_self]
    · simp [PyData.hasDictAll, PyData.hasDict, h2]
    · simp [PyData.depthAll, PyData.depth, h3]
    · simp only [List.map_cons, PyData.leavesShortAll, h4, a4, Bool.and_self]
    · simp only [List.map_cons, PyData.weightAll, List.length_cons]
      omega
@[irreducible] def dDg (l : List Nat) : PyData := dKs l
theorem repr_dg {K : PySem.W.Frag} {H : Hp} {R : PyData → Prop} {p : Addr} {l : List Nat} (h1 : H p = some (.tup (l.map fun k => V.int (k : Nat)))) (h : ∀ k ∈ l, k ≤ 9) (hl : l.length ≤ 40000) (q : R (dDg l)) :
    ∃ (a' : Addr) (d' : PyData), [V.ref p] = [V.ref a'] ∧ Dp K H (.ref a') d' ∧ d'.showable = true ∧ d'.hasDict = false ∧ d'.depth ≤ 60 ∧ d'.shown.length ≤ sizeLine ∧ R d' := by
  unfold dDg at q
  obtain ⟨g1, g2, g3, g4, g5⟩ := dig_all l h
  refine go_repr (dKs l) (.tup (sqT_of h1) (dp_ks l)) ?_ ?_ ?_ ?_ ?_ q
  · simp only [dKs, PyData.showable]; exact g1
  · simp only [dKs, PyData.hasDict]; exact g2
  · simp only [dKs, PyData.depth, g3]; decide
  · simp only [dKs, PyData.leavesShort]; exact g4
  · simp only [dKs, PyData.weight]; omega
@[irreducible] def dDg2 (l k : List Nat) : PyData := .list [dKs l, dKs k]
theorem repr_dg2 {K : PySem.W.Frag} {H : Hp} {R : PyData → Prop} {o p p' : Addr} {l k : List Nat} (h0 : H o = some (.lst [.ref p, .ref p'])) (h1 : H p = some (.tup (l.map fun k => V.int (k : Nat)))) (h2 : H p' = some (.tup (k.map fun k => V.int (k : Nat))))
    (hl9 : ∀ x ∈ l, x ≤ 9) (hk9 : ∀ x ∈ k, x ≤ 9) (hl : l.length ≤ 10000) (hk : k.length ≤ 10000) (q : R (dDg2 l k)) :
    ∃ (a' : Addr) (d' : PyData), [V.ref o] = [V.ref a'] ∧ Dp K H (.ref a') d' ∧ d'.showable = true ∧ d'.hasDict = false ∧ d'.depth ≤ 60 ∧ d'.shown.length ≤ sizeLine ∧ R d' := by
  unfold dDg2 at q
  obtain ⟨g1, g2, g3, g4, g5⟩ := dig_all l hl9
  obtain ⟨k1, k2, k3, k4, k5⟩ := dig_all k hk9
  refine go_repr (.list [dKs l, dKs k]) (.lst (.inl (.inl h0)) (.cons (.tup (sqT_of h1) (dp_ks l)) (.cons (.tup (sqT_of h2) (dp_ks k)) .nil))) ?_ ?_ ?_ ?_ ?_ q
  · simp only [dKs, PyData.showable, PyData.showableAll, g1, k1, Bool.and_self]
  · simp only [dKs, PyData.hasDict, PyData.hasDictAll, g2, k2, Bool.or_self]
  · simp only [dKs, PyData.depth, PyData.depthAll, g3, k3]; decide
  · simp only [dKs, PyData.leavesShort, PyData.leavesShortAll, g4, k4, Bool.and_self]
  · simp only [dKs, PyData.weight, PyData.weightAll]; omega

/-- two small numbers in a list -/
@[irreducible] def dI2 (a b : Nat) : PyData := .list [.int (a : Nat), .int (b : Nat)]
theorem repr_i2 {K : PySem.W.Frag} {H : Hp} {R : PyData → Prop} {o : Addr} {a b : Nat} (h0 : H o = some (.lst [.int (a : Nat), .int (b : Nat)])) (ha : a ≤ 10000) (hb : b ≤ 10000) (q : R (dI2 a b)) :
    ∃ (a' : Addr) (d' : PyData), [V.ref o] = [V.ref a'] ∧ Dp K H (.ref a') d' ∧ d'.showable = true ∧ d'.hasDict = false ∧ d'.depth ≤ 60 ∧ d'.shown.length ≤ sizeLine ∧ R d' := by
  unfold dI2 at q
  exact repr_items [.int (a : Nat), .int (b : Nat)] h0 (.cons (.int _) (.cons (.int _) .nil)) (List.forall_mem_cons.mpr ⟨small_int (by omega) (by omega), List.forall_mem_cons.mpr ⟨small_int (by omega) (by omega), fun _ z => by cases z⟩⟩) (by simp) q
end G1
namespace G68
open PySem PySem.Spec PyProof.Rows L2 G1 Sq
local macro_rules | `(tactic| walk_at "side") => `(tactic| first
  | assumption
  | omega
  | (constructor <;> omega)
  | rfl
  | decide
  | (dsimp only; decide)
  | (refine szl ?_; simp only [List.length_cons, List.length_nil]; omega)
  | (unfold CMul; omega)
  | (unfold CDiv; omega)
  | (unfold CPow; omega)
  | (unfold CMul; simp; done)
  | (unfold CMul; simp; omega)
  | (simp only [List.length_map, List.length_append, List.length_take, List.length_drop, rep_length, List.length_cons, List.length_nil, Nat.zero_add, Nat.mul_one]; omega))
local macro_rules | `(tactic| walk_at "go1") => `(tactic| first
  | (apply go_bit; (focus walk_at "side"); rw [B_str _ (by walk_at "side") (by walk_at "side")])
  | (apply go_lenS; (focus walk_at "side"); simp only [B_len])
  | (apply go_addS; (focus walk_at "side"); rw [B_app])
  | (apply go_mulS; (focus walk_at "side"); (focus walk_at "side"); rw [B_mul _ (by walk_at "side")])
  | (apply go_sl; (focus walk_at "side"); first | rw [B_last] | rw [B_init] | rw [B_to _ (by walk_at "side")] | rw [B_from _ (by walk_at "side")] | rw [B_mid _ (by walk_at "side") (by walk_at "side")])
  | (apply goC_sl; (focus walk_at "side"); first | rw [C_to _ (by walk_at "side")] | rw [C_from _ (by walk_at "side")] | rw [C_mid _ (by walk_at "side") (by walk_at "side")])
  | (apply goC_mulS; (focus walk_at "side"); (focus walk_at "side"); rw [C_mul _ (by walk_at "side")])
  | refine ⟨_, rfl, ?_⟩
  | refine ⟨_, _, rfl, rfl, ?_⟩
  | refine ⟨_, _, _, rfl, rfl, ?_⟩
  | refine ⟨_, _, rfl, ?_⟩
  | refine ⟨_, _, _, rfl, ?_⟩
  | (apply go_tup; assumption)
  | (apply go_unl; assumption)
  | (apply go_ixL; assumption; (first | rfl | assumption))
  | (apply go_ixT; assumption; (first | rfl | assumption))
  | (apply go_lenL; assumption)
  | (apply go_lenT; assumption)
  | refine Or.inl ⟨_, rfl, ?_⟩
  | (refine And.intro ?ll ?_; (case ll => walk_at "side")))
local macro_rules | `(tactic| walk_at "go") => `(tactic| repeat (walk_at "go1"))
def topS (i : Nat) : Stmt := PySem.Challenge.pw_leastmakers_k68_rows_far_out.main.body.getD i (.Pass ⟨0, 0, 0, 0⟩)
abbrev s_sum_ahead : Stmt := topS 1
abbrev nm_sum_ahead : List Str := ["modulus", "factors", "ahead", "factor", "number"]
theorem sc_sum_ahead : FnScope nm_sum_ahead ["modulus", "factors", "ahead"] (defScope s_sum_ahead) := ⟨rfl, rfl, rfl, by decide +kernel, rfl, by decide +kernel, by decide +kernel⟩
abbrev s_values : Stmt := topS 3
abbrev nm_values : List Str := ["rule", "many", "modulus", "factors", "begin", "row"]
theorem sc_values : FnScope nm_values ["rule", "many"] (defScope s_values) := ⟨rfl, rfl, rfl, by decide +kernel, rfl, by decide +kernel, by decide +kernel⟩
abbrev s_value_at : Stmt := topS 4
abbrev nm_value_at : List Str := ["rule", "number", "head", "turn"]
theorem sc_value_at : FnScope nm_value_at ["rule", "number"] (defScope s_value_at) := ⟨rfl, rfl, rfl, by decide +kernel, rfl, by decide +kernel, by decide +kernel⟩
abbrev s_round_of : Stmt := topS 5
abbrev nm_round_of : List Str := ["rule", "modulus", "factors", "ahead", "seen"]
theorem sc_round_of : FnScope nm_round_of ["rule"] (defScope s_round_of) := ⟨rfl, rfl, rfl, by decide +kernel, rfl, by decide +kernel, by decide +kernel⟩
abbrev s_deck : Stmt := topS 7
abbrev nm_deck : List Str := ["_law_script", "_law_cells", "_law_great", "_law_cell"]
theorem sc_deck : FnScope nm_deck ["_law_script"] (defScope s_deck) := ⟨rfl, rfl, rfl, by decide +kernel, rfl, by decide +kernel, by decide +kernel⟩
abbrev s_draw : Stmt := topS 8
abbrev nm_draw : List Str := ["_law_deck_here", "_law_many", "_law_great", "_law_cells", "_law_rest", "_law_turn", "_law_found"]
theorem sc_draw : FnScope nm_draw ["_law_deck_here", "_law_many"] (defScope s_draw) := ⟨rfl, rfl, rfl, by decide +kernel, rfl, by decide +kernel, by decide +kernel⟩
abbrev s_pick : Stmt := topS 9
abbrev nm_pick : List Str := ["_law_deck_here", "_law_items"]
theorem sc_pick : FnScope nm_pick ["_law_deck_here", "_law_items"] (defScope s_pick) := ⟨rfl, rfl, rfl, by decide +kernel, rfl, by decide +kernel, by decide +kernel⟩
abbrev s_far : Stmt := topS 10
abbrev nm_far : List Str := ["_law_deck_here", "_law_many", "_law_found", "_law_turn"]
theorem sc_far : FnScope nm_far ["_law_deck_here", "_law_many"] (defScope s_far) := ⟨rfl, rfl, rfl, by decide +kernel, rfl, by decide +kernel, by decide +kernel⟩
abbrev s_rule : Stmt := topS 11
abbrev nm_rule : List Str := ["_law_deck_here", "_law_most", "_law_modulus", "_law_many", "_law_size", "_law_kind", "_law_root", "_law_factors", "_law_begin", "_law_k"]
theorem sc_rule : FnScope nm_rule ["_law_deck_here", "_law_most"] (defScope s_rule) := ⟨rfl, rfl, rfl, by decide +kernel, rfl, by decide +kernel, by decide +kernel⟩
abbrev s_row : Stmt := topS 12
abbrev nm_row : List Str := ["_law_rule_here", "_law_many", "_law_modulus", "_law_factors", "_law_begin", "_law_found", "_law_back", "_law_one", "_law_other"]
theorem sc_row : FnScope nm_row ["_law_rule_here", "_law_many"] (defScope s_row) := ⟨rfl, rfl, rfl, by decide +kernel, rfl, by decide +kernel, by decide +kernel⟩
abbrev s_going : Stmt := topS 13
abbrev nm_going : List Str := ["_law_rule_here", "_law_most", "_law_modulus", "_law_factors", "_law_begin", "_law_many", "_law_found", "_law_seen", "_law_at", "_law_near", "_law_one", "_law_other"]
theorem sc_going : FnScope nm_going ["_law_rule_here", "_law_most"] (defScope s_going) := ⟨rfl, rfl, rfl, by decide +kernel, rfl, by decide +kernel, by decide +kernel⟩
abbrev s_far_value : Stmt := topS 14
abbrev nm_far_value : List Str := ["_law_rule_here", "_law_number", "_law_modulus", "_law_factors", "_law_begin", "_law_many", "_law_twos", "_law_power", "_law_two", "_law_wide", "_law_place", "_law_one", "_law_index", "_law_other", "_law_factor"]
theorem sc_far_value : FnScope nm_far_value ["_law_rule_here", "_law_number"] (defScope s_far_value) := ⟨rfl, rfl, rfl, by decide +kernel, rfl, by decide +kernel, by decide +kernel⟩
abbrev s_law : Stmt := topS 15
abbrev nm_law : List Str := ["_law_script", "_law_deck_here", "_law_turn", "_law_rule_here", "_law_size", "_law_own", "_law_number", "_law_due", "_law_last", "_law_again", "_law_first", "_law_ring"]
theorem sc_law : FnScope nm_law ["_law_script"] (defScope s_law) := ⟨rfl, rfl, rfl, by decide +kernel, rfl, by decide +kernel, by decide +kernel⟩
structure Tp (K : PySem.W.Frag) (mg : Str → Option Value) where
  a_sum_ahead : Addr
  d_sum_ahead : FuncData
  F_sum_ahead : Fun K "sum_ahead" "sum_ahead" s_sum_ahead a_sum_ahead d_sum_ahead
  g_sum_ahead : mg "sum_ahead" = some (.ref a_sum_ahead)
  a_values : Addr
  d_values : FuncData
  F_values : Fun K "values" "values" s_values a_values d_values
  g_values : mg "values" = some (.ref a_values)
  a_value_at : Addr
  d_value_at : FuncData
  F_value_at : Fun K "value_at" "value_at" s_value_at a_value_at d_value_at
  g_value_at : mg "value_at" = some (.ref a_value_at)
  a_round_of : Addr
  d_round_of : FuncData
  F_round_of : Fun K "round_of" "round_of" s_round_of a_round_of d_round_of
  g_round_of : mg "round_of" = some (.ref a_round_of)
  a_deck : Addr
  d_deck : FuncData
  F_deck : Fun K "_law_deck" "_law_deck" s_deck a_deck d_deck
  g_deck : mg "_law_deck" = some (.ref a_deck)
  a_draw : Addr
  d_draw : FuncData
  F_draw : Fun K "_law_draw" "_law_draw" s_draw a_draw d_draw
  g_draw : mg "_law_draw" = some (.ref a_draw)
  a_pick : Addr
  d_pick : FuncData
  F_pick : Fun K "_law_pick" "_law_pick" s_pick a_pick d_pick
  g_pick : mg "_law_pick" = some (.ref a_pick)
  a_far : Addr
  d_far : FuncData
  F_far : Fun K "_law_far" "_law_far" s_far a_far d_far
  g_far : mg "_law_far" = some (.ref a_far)
  a_rule : Addr
  d_rule : FuncData
  F_rule : Fun K "_law_rule" "_law_rule" s_rule a_rule d_rule
  g_rule : mg "_law_rule" = some (.ref a_rule)
  a_row : Addr
  d_row : FuncData
  F_row : Fun K "_law_row" "_law_row" s_row a_row d_row
  g_row : mg "_law_row" = some (.ref a_row)
  a_going : Addr
  d_going : FuncData
  F_going : Fun K "_law_going" "_law_going" s_going a_going d_going
  g_going : mg "_law_going" = some (.ref a_going)
  a_far_value : Addr
  d_far_value : FuncData
  F_far_value : Fun K "_law_far_value" "_law_far_value" s_far_value a_far_value d_far_value
  g_far_value : mg "_law_far_value" = some (.ref a_far_value)
  a_law : Addr
  d_law : FuncData
  F_law : Fun K "law" "law" s_law a_law d_law
  g_law : mg "law" = some (.ref a_law)
  n_abs : mg "abs" = none
  n_enumerate : mg "enumerate" = none
  n_int : mg "int" = none
  n_len : mg "len" = none
  n_list : mg "list" = none
  n_range : mg "range" = none
  n_repr : mg "repr" = none
  n_sum : mg "sum" = none
  n_tuple : mg "tuple" = none
  n_zip : mg "zip" = none
section
variable {K : PySem.W.Frag} {mg : Str → Option Value} (T : Tp K mg)
theorem b_sum_ahead : Binds K T.d_sum_ahead ["modulus", "factors", "ahead"] [] := T.F_sum_ahead.binds (ps := ["modulus", "factors", "ahead"]) fun _ _ _ _ _ _ us hl => match us, hl with | [_, _, _], _ => rfl
theorem b_values : Binds K T.d_values ["rule", "many"] [] := T.F_values.binds (ps := ["rule", "many"]) fun _ _ _ _ _ _ us hl => match us, hl with | [_, _], _ => rfl
theorem b_value_at : Binds K T.d_value_at ["rule", "number"] [] := T.F_value_at.binds (ps := ["rule", "number"]) fun _ _ _ _ _ _ us hl => match us, hl with | [_, _], _ => rfl
theorem b_round_of : Binds K T.d_round_of ["rule"] [] := T.F_round_of.binds (ps := ["rule"]) fun _ _ _ _ _ _ us hl => match us, hl with | [_], _ => rfl
theorem b_deck : Binds K T.d_deck ["_law_script"] [] := T.F_deck.binds (ps := ["_law_script"]) fun _ _ _ _ _ _ us hl => match us, hl with | [_], _ => rfl
theorem b_draw : Binds K T.d_draw ["_law_deck_here", "_law_many"] [] := T.F_draw.binds (ps := ["_law_deck_here", "_law_many"]) fun _ _ _ _ _ _ us hl => match us, hl with | [_, _], _ => rfl
theorem b_pick : Binds K T.d_pick ["_law_deck_here", "_law_items"] [] := T.F_pick.binds (ps := ["_law_deck_here", "_law_items"]) fun _ _ _ _ _ _ us hl => match us, hl with | [_, _], _ => rfl
theorem b_far : Binds K T.d_far ["_law_deck_here", "_law_many"] [] := T.F_far.binds (ps := ["_law_deck_here", "_law_many"]) fun _ _ _ _ _ _ us hl => match us, hl with | [_, _], _ => rfl
theorem b_rule : Binds K T.d_rule ["_law_deck_here", "_law_most"] [] := T.F_rule.binds (ps := ["_law_deck_here", "_law_most"]) fun _ _ _ _ _ _ us hl => match us, hl with | [_, _], _ => rfl
theorem b_row : Binds K T.d_row ["_law_rule_here", "_law_many"] [] := T.F_row.binds (ps := ["_law_rule_here", "_law_many"]) fun _ _ _ _ _ _ us hl => match us, hl with | [_, _], _ => rfl
theorem b_going : Binds K T.d_going ["_law_rule_here", "_law_most"] [] := T.F_going.binds (ps := ["_law_rule_here", "_law_most"]) fun _ _ _ _ _ _ us hl => match us, hl with | [_, _], _ => rfl
theorem b_far_value : Binds K T.d_far_value ["_law_rule_here", "_law_number"] [] := T.F_far_value.binds (ps := ["_law_rule_here", "_law_number"]) fun _ _ _ _ _ _ us hl => match us, hl with | [_, _], _ => rfl
theorem b_law : Binds K T.d_law ["_law_script"] [] := T.F_law.binds (ps := ["_law_script"]) fun _ _ _ _ _ _ us hl => match us, hl with | [_], _ => rfl
end
set_option pp.deepTerms false
set_option pp.deepTerms.threshold 5
section
variable {P : Program} {wd : World} {K : PySem.W.Frag} {mg : Str → Option Value} {base : Heap} (T : Tp K mg)
theorem mem_ints {x : V} {ns : List Int} {xs : List V} (e : xs = ns.map V.int) (h : x ∈ xs) : ∃ i ∈ ns, x = .int i := by
  subst e
  obtain ⟨i, h1, h2⟩ := List.mem_map.mp h
  exact ⟨i, h1, h2.symm⟩
theorem cut63 {xs : List V} {n : Nat} (h : xs.length ≤ n) : cutV xs none (some (n : Int)) = xs := by
  unfold cutV
  rw [sIx_of _ _ (by omega)]
  show (xs.drop 0).take (min (n : Int).toNat xs.length - 0) = xs
  rw [List.drop_zero, Nat.sub_zero, Int.toNat_natCast, Nat.min_eq_right h, List.take_length]
abbrev Dk (w g c : Addr) (H : Hp) : Prop := DkC "mixed" w g c H
theorem kd {g c : Addr} {W k : Int} : valV (dkv "mixed" g c W k) (Sum.inr ("great" : Str)) = some (.ref g) ∧ valV (dkv "mixed" g c W k) (Sum.inr ("cells" : Str)) = some (.ref c) ∧
    valV (dkv "mixed" g c W k) (Sum.inr ("whole" : Str)) = some (.int W) ∧ valV (dkv "mixed" g c W k) (Sum.inr ("mixed" : Str)) = some (.int k) := dk_get (by decide)
def spDeck (K : PySem.W.Frag) : Sp := fun vs H Q _ => ∃ (a : Addr) (ns : List Int), vs = [.ref a] ∧ SqL K H a (ns.map V.int) ∧ ns.length ≤ 63 ∧
  ∀ w g c H', Same H H' → Dk w g c H' → Q (.ref w) H'
theorem ok_deck : FnOk P wd K mg base CX0 1 T.a_deck T.d_deck ["_law_script"] (spDeck K) := by
  refine T.F_deck.ok sc_deck (fun vs H Q E h => ?_) (fun cdv A outer s H vs Q E hr h => ?_)
  · obtain ⟨a, ns, rfl, _⟩ := h
    rfl
  · obtain ⟨a, ns, rfl, hS, hl, q⟩ := h
    refine ⟨_, (pss_cons (ps_set (i := 1) sc_deck.nd rfl (Or.inl rfl) (pe_callTy call_list_of rfl T.n_list (by decide +kernel) (pa_cons (pe_slice sl_list (pv 0) po_none (po_some pe_int)) pa_nil)))
      (pss_cons (ps_setLc (i := 2) (own := [("_law_cell", 3)]) rfl sc_deck.nd rfl rfl (sw_true rfl rfl rfl (by decide +kernel)) (pi_list (pv 1)) (blkOk_by (N := nm_deck) (sc := defScope s_deck) (by decide +kernel)) (fun _ _ _ _ _ => pg_name (i := 3) sc_deck.nd rfl (Or.inl rfl)) (fun _ _ _ _ _ => pts_one (pt_cmpR op_ge (pe_callB call_abs rfl T.n_abs (by decide +kernel) (pa_cons (pv 3) pa_nil)) (pe_op op_pow pe_int pe_int) (nomark _))) (fun _ _ _ _ _ => (pe_callB call_abs rfl T.n_abs (by decide +kernel) (pa_cons (pv 3) pa_nil))))
      (pss_one (ps_ret (pe_disp (pps_cons pe_str (pv 2) (pps_cons pe_str (pe_op op_cat (pv 1) (pe_lst (pa_cons (pe_op op_add pe_int (pe_callB call_len_seq rfl T.n_len PySem.boot_len (pa_cons (pv 1) pa_nil))) pa_nil))) (pps_cons pe_str (pe_callB (cr_sum rfl) rfl T.n_sum (by decide +kernel) (pa_cons (pv 1) pa_nil)) (pps_cons pe_str pe_int pps_nil)))) rfl rfl (by simp) (by decide)))))), ?_⟩
    walk_at "go"
    refine ⟨a, ns.map V.int, rfl, hS, ?_⟩
    rw [show (63 : Int) = ((63 : Nat) : Int) from rfl, cut63 (by rw [List.length_map]; exact hl)]
    intro c0 nc0
    generalize hU0 : upd H c0 _ = H0
    obtain ⟨s0, hc0⟩ := new_of0 nc0 hU0
    refine ⟨c0, _, rfl, .inl (sqL_of hc0), ?_⟩
    intro c nc
    generalize hU : upd H0 c _ = H1
    obtain ⟨s1', hc⟩ := new_of0 nc hU
    have s1 := s0.trans s1'
    walk_at "go"
    refine ⟨⟨_, sqL_of hc⟩, fun D nD => ?_⟩
    refine lc_list (xs := ns.map V.int) (fun i H2 => ∃ gs : List Int, H2 D = some (.lst (gs.map V.int)) ∧ gs.length ≤ i ∧ Same H1 H2) ⟨[], upd_same, Nat.zero_le _, same_new nD⟩
      (fun i H2 _ p => sqL_of (p.choose_spec.2.2 _ _ hc)) (fun i x H2 hx p => ?_) (fun H2 p => ?_)
    · obtain ⟨gs, hD, hg, S⟩ := p
      obtain ⟨z, _, rfl⟩ := mem_ints (x := x) (ns := ns) rfl (List.mem_of_getElem? hx)
      have hil : i < (ns.map V.int).length := (List.getElem?_eq_some_iff.mp hx).1
      rw [List.length_map] at hil
      refine ⟨rfl, ?_⟩
      walk_at "go"
      refine ifD (fun big => ?_) (fun nb => ?_)
      · walk_at "go"
        refine ⟨_, hD, small1000 (by rw [List.length_map]; omega), gs ++ [_], by rw [upd_same, List.map_append]; rfl, by rw [List.length_append]; simp; omega, same_mut S nD⟩
      · exact ⟨gs, hD, by omega, S⟩
    · obtain ⟨gs, hD, hg, S⟩ := p
      rw [List.length_map] at hg
      have hc2 := S _ _ hc
      walk_at "go"
      intro w nw
      generalize hU3 : upd H2 w _ = H5
      obtain ⟨s5, hw⟩ := new_of0 nw hU3
      have hD5 := s5 _ _ hD
      have hc5 := s5 _ _ hc2
      walk_at "go"
      intro l1 nl1
      generalize hU4 : upd H5 l1 _ = H6
      obtain ⟨s6, hl1⟩ := new_of0 nl1 hU4
      have hc6 := s6 _ _ hc5
      refine ⟨c, l1, _, _, rfl, rfl, hc6, hl1, szl (by rw [List.length_map]; simp; omega), fun c3 nc3 => ?_⟩
      generalize hU5 : upd H6 c3 _ = H7
      obtain ⟨s7, hc3⟩ := new_of0 nc3 hU5
      have hc7 := s7 _ _ hc6
      have hD7 := s7 _ _ (s6 _ _ hD5)
      walk_at "go"
      refine ⟨c, ns, rfl, sqL_of hc7, ?_⟩
      walk_at "go"
      have hw7 := s7 _ _ (s6 _ _ hw)
      refine ⟨hw7, dkv "mixed" D c3 ns.sum 0, rfl, by simp [dkv], ?_⟩
      have em : mergeK [] (dkv "mixed" D c3 ns.sum 0) = dkv "mixed" D c3 ns.sum 0 := by
        have e1 : (Sum.inr ("great" : Str) : Key) ≠ Sum.inr ("cells" : Str) := by decide
        have e2 : (Sum.inr ("great" : Str) : Key) ≠ Sum.inr ("whole" : Str) := by decide
        have e3 : (Sum.inr ("cells" : Str) : Key) ≠ Sum.inr ("whole" : Str) := by decide
        have e4 : (Sum.inr ("great" : Str) : Key) ≠ Sum.inr ("mixed" : Str) := by decide
        have e5 : (Sum.inr ("cells" : Str) : Key) ≠ Sum.inr ("mixed" : Str) := by decide
        have e6 : (Sum.inr ("whole" : Str) : Key) ≠ Sum.inr ("mixed" : Str) := by decide
        simp [mergeK, putK, dkv, e1, e2, e3, e4, e5, e6]
      rw [em]
      have Sall : Same H (upd H7 w (.dK (dkv "mixed" D c3 ns.sum 0))) := fun b o z => by
        have z4 := S _ _ (s1 _ _ z)
        rw [upd_ne (ne_of_none z4 nw)]
        exact s7 _ _ (s6 _ _ (s5 _ _ z4))
      obtain ⟨z, hz⟩ : ∃ z : Int, H7 c3 = some (.lst ((ns ++ [z]).map V.int)) := ⟨_, by rw [List.map_append]; exact hc3⟩
      have n1 : w ≠ D := ne_of hw7 hD7 (by intro z; cases z)
      have n2 : c3 ≠ D := (ne_of_none (s6 _ _ hD5) nc3).symm
      have n3 : c3 ≠ w := ne_of hz hw7 (by intro z; cases z)
      refine q w D c3 _ Sall ⟨gs, ns ++ [z], ns.sum, 0, n1, n2, n3, upd_same, (upd_ne n1.symm).trans hD7, (upd_ne n3).trans hz, by simp, by omega, by simp; omega⟩
section
variable {w g c : Addr} {M k : Int} {H : Hp}
theorem dg_great (hw : H w = some (.dK (dkv "mixed" g c M k))) : DGet H w (.str "great") (some (.ref g)) := kd.1 ▸ DGet.k (k := Sum.inr "great") hw
theorem dg_cells (hw : H w = some (.dK (dkv "mixed" g c M k))) : DGet H w (.str "cells") (some (.ref c)) := kd.2.1 ▸ DGet.k (k := Sum.inr "cells") hw
theorem dg_whole (hw : H w = some (.dK (dkv "mixed" g c M k))) : DGet H w (.str "whole") (some (.int M)) := kd.2.2.1 ▸ DGet.k (k := Sum.inr "whole") hw
theorem dg_drawn (hw : H w = some (.dK (dkv "mixed" g c M k))) : DGet H w (.str "mixed") (some (.int k)) := kd.2.2.2 ▸ DGet.k (k := Sum.inr "mixed") hw
end
def spDraw : Sp := fun vs H Q _ => ∃ (w g c : Addr) (n : Int), vs = [.ref w, .int n] ∧ Dk w g c H ∧ 0 < n ∧ n < 1073741824 ∧
  ∀ (d : Int) H', Go w g H H' → Dk w g c H' → 0 ≤ d → d < n → Q (.int d) H'
theorem kput {g c : Addr} {W k j : Int} : putK (dkv "mixed" g c W k) (Sum.inr ("mixed" : Str)) (.int j) = dkv "mixed" g c W j := by
  have e4 : (Sum.inr ("great" : Str) : Key) ≠ Sum.inr ("mixed" : Str) := by decide
  have e5 : (Sum.inr ("cells" : Str) : Key) ≠ Sum.inr ("mixed" : Str) := by decide
  have e6 : (Sum.inr ("whole" : Str) : Key) ≠ Sum.inr ("mixed" : Str) := by decide
  simp [putK, dkv, e4, e5, e6]
theorem ok_draw : FnOk P wd K mg base CX0 1 T.a_draw T.d_draw ["_law_deck_here", "_law_many"] spDraw := by
  refine T.F_draw.ok sc_draw (fun vs H Q E h => ?_) (fun cdv A outer s H vs Q E hr h => ?_)
  · obtain ⟨w, g, c, n, rfl, _⟩ := h
    rfl
  · have hu4 : (cxOf CX0 P wd K mg base nm_draw "_law_draw" (defScope s_draw) T.a_draw cdv A outer s H E).A.units + 64 < cLine := hr.units
    obtain ⟨w, g, c, n, rfl, W, n0, n1, q⟩ := h
    refine ⟨_, (pss_cons (ps_par (i := 2) (j := 3) rfl sc_draw.nd rfl rfl (by decide) rfl rfl (pa_cons (pe_dget (hu_of hr) (pv 0) pe_str (fun _ _ => rfl)) (pa_cons (pe_dget (hu_of hr) (pv 0) pe_str (fun _ _ => rfl)) pa_nil)) rfl)
      (pss_cons (ps_if (pt_cmpR (op_neD hu4) (pv 2) (pe_lst pa_nil) (nomark _)) (pss_cons (ps_set (i := 4) sc_draw.nd rfl (Or.inl rfl) (pe_ix ix_list (pv 2) pe_int (fun _ _ => rfl)))
      (pss_cons (ps_asg (pe_op op_fdiv (pv 4) (pv 1)) (pg_sub (pv 2) pe_int set_list))
      (pss_cons (ps_if (pt_cmpR op_eq (pe_ix ix_list (pv 2) pe_int (fun _ _ => rfl)) pe_int (nomark _)) (pss_one (ps_expr (pe_bm PySem.F.plainAttrs_list PySem.F.slot_list_pop PySem.F.type_list_pop mt_popAt (pv 2) (pa_cons pe_int pa_nil)))) pss_nil)
      (pss_one (ps_ret (pe_op op_mod (pe_callTy call_int1 rfl T.n_int (by decide +kernel) (pa_cons (pv 4) pa_nil)) (pv 1))))))) pss_nil)
      (pss_cons (ps_dput (hu_of hr) (pv 0) pe_str (pe_op op_add (pe_dget (hu_of hr) (pv 0) pe_str (fun _ _ => rfl)) pe_int) rfl)
      (pss_cons (ps_set (i := 5) sc_draw.nd rfl (Or.inl rfl) (pe_dget (hu_of hr) (pv 0) pe_str (fun _ _ => rfl)))
      (pss_cons (ps_set (i := 6) sc_draw.nd rfl (Or.inl rfl) (pe_op op_mod (pe_callTy call_int1 rfl T.n_int (by decide +kernel) (pa_cons (pe_op op_add (pe_op op_add (pe_ix ix_list (pv 3) (pe_op op_mod (pe_callTy call_int1 rfl T.n_int (by decide +kernel) (pa_cons (pv 5) pa_nil)) (pe_callB call_len_seq rfl T.n_len PySem.boot_len (pa_cons (pv 3) pa_nil))) (fun _ _ => rfl)) (pe_op op_mul pe_int (pe_dget (hu_of hr) (pv 0) pe_str (fun _ _ => rfl)))) (pe_op op_mul pe_int (pv 5))) pa_nil)) pe_int))
      (pss_cons (ps_set (i := 6) sc_draw.nd rfl (Or.inl rfl) (pe_op op_mod (pe_callTy call_int1 rfl T.n_int (by decide +kernel) (pa_cons (pe_op op_add (pe_op op_mul (pv 6) (pv 6)) (pe_op op_mul pe_int (pv 5))) pa_nil)) pe_int))
      (pss_one (ps_ret (pe_op op_mod (pe_op op_fdiv (pe_op op_mod (pe_callTy call_int1 rfl T.n_int (by decide +kernel) (pa_cons (pe_op op_mul (pv 6) (pv 6)) pa_nil)) pe_int) pe_int) (pv 1)))))))))), ?_⟩
    obtain ⟨gs, cs, M, k, e1, e2, e3, hw, hg, hc, h0, hgs, hcs⟩ := W
    walk_at "go"
    refine ⟨w, .ref g, rfl, dg_great hw, ?_⟩
    walk_at "go"
    refine ⟨w, .ref c, rfl, dg_cells hw, ?_⟩
    walk_at "go"
    intro o no
    have s1 : Same H (upd H o (.lst [])) := same_new no
    have ho : (upd H o (.lst [])) o = some (.lst []) := upd_same
    generalize upd H o (.lst []) = H1 at s1 ho
    replace hw := s1 _ _ hw
    replace hg := s1 _ _ hg
    replace hc := s1 _ _ hc
    refine ⟨.list (gs.map PyData.int), .list [], .lst (sqL_of hg) (dpAll_ints _), .lst (sqL_of ho) .nil, shaped_ints _, by rfl, _, rfl, ?_⟩
    rw [eqv_ints_nil]
    refine ifDn (fun hne => ?_) (fun he => ?_)
    · obtain ⟨r, gs', rfl⟩ : ∃ r gs', gs = r :: gs' := by
        cases gs with
        | nil => exact absurd rfl hne
        | cons r gs' => exact ⟨r, gs', rfl⟩
      walk_at "go"
      refine ⟨g, _, 0, 0, rfl, rfl, hg, ix_zero (by simp), ?_⟩
      have hg2 : (upd H1 g (.lst ((((r :: gs').map V.int)).set 0 (.int (r / n))))) g = some (.lst (((r / n) :: gs').map V.int)) := upd_same
      have hw2 : (upd H1 g (.lst ((((r :: gs').map V.int)).set 0 (.int (r / n))))) w = _ := (upd_ne e1).trans hw
      have hc2 : (upd H1 g (.lst ((((r :: gs').map V.int)).set 0 (.int (r / n))))) c = _ := (upd_ne e2).trans hc
      have s2 : Go w g H (upd H1 g (.lst ((((r :: gs').map V.int)).set 0 (.int (r / n))))) := fun a x n1 n2 e => by
        rw [upd_ne n2]
        exact s1 _ _ e
      show (_ : Hp → Prop) (upd H1 g (.lst ((((r :: gs').map V.int)).set 0 (.int (r / n)))))
      generalize upd H1 g (.lst ((((r :: gs').map V.int)).set 0 (.int (r / n)))) = H2 at hg2 hw2 hc2 s2
      walk_at "go"
      refine ifD (fun ez => ?_) (fun nz => ?_)
      · walk_at "go"
        refine ⟨Or.inl ⟨rfl, _, sqL_of hg2⟩, ?_⟩
        walk_at "go"
        refine ⟨_, _, 0, 0, .int (r / n), rfl, rfl, hg2, by decide, by decide, by rw [List.length_map, List.length_cons]; exact seq_zero _, rfl, ?_⟩
        have hg3 : (upd H2 g (.lst ((((r / n) :: gs').map V.int).eraseIdx 0))) g = some (.lst (gs'.map V.int)) := upd_same
        have hw3 : (upd H2 g (.lst ((((r / n) :: gs').map V.int).eraseIdx 0))) w = _ := (upd_ne e1).trans hw2
        have hc3 : (upd H2 g (.lst ((((r / n) :: gs').map V.int).eraseIdx 0))) c = _ := (upd_ne e2).trans hc2
        have s3 : Go w g H (upd H2 g (.lst ((((r / n) :: gs').map V.int).eraseIdx 0))) := fun a x n1 n2 e => by
          rw [upd_ne n2]
          exact s2 _ _ n1 n2 e
        generalize upd H2 g (.lst ((((r / n) :: gs').map V.int).eraseIdx 0)) = H3 at hg3 hw3 hc3 s3
        walk_at "go"
        exact q _ _ s3 ⟨_, cs, M, k, e1, e2, e3, hw3, hg3, hc3, h0, by rw [List.length_cons] at hgs; omega, hcs⟩ (Int.emod_nonneg _ (by omega)) (Int.emod_lt_of_pos _ n0)
      · walk_at "go"
        exact q _ _ s2 ⟨_, cs, M, k, e1, e2, e3, hw2, hg2, hc2, h0, by rw [List.length_cons] at hgs ⊢; omega, hcs⟩ (Int.emod_nonneg _ (by omega)) (Int.emod_lt_of_pos _ n0)
    · subst he
      walk_at "go"
      refine ⟨w, .int k, rfl, dg_drawn hw, ?_⟩
      walk_at "go"
      refine ⟨w, _, rfl, DPut.k (k := Sum.inr "mixed") hw (by show 4 < sizeLine; decide), ?_⟩
      rw [kput]
      have hw2 : (upd H1 w (.dK (dkv "mixed" g c M (k + 1)))) w = some (.dK (dkv "mixed" g c M (k + 1))) := upd_same
      have hg2 : (upd H1 w (.dK (dkv "mixed" g c M (k + 1)))) g = _ := (upd_ne e1.symm).trans hg
      have hc2 : (upd H1 w (.dK (dkv "mixed" g c M (k + 1)))) c = _ := (upd_ne e3).trans hc
      have s2 : Go w g H (upd H1 w (.dK (dkv "mixed" g c M (k + 1)))) := fun a x n1 n2 e => by
        rw [upd_ne n1]
        exact s1 _ _ e
      generalize upd H1 w (.dK (dkv "mixed" g c M (k + 1))) = H2 at hg2 hw2 hc2 s2
      have hm : ((k + 1) % (((cs.map V.int).length : Nat) : Int)).toNat < cs.length := by
        rw [List.length_map]
        have h1 := Int.emod_nonneg (k + 1) (show (cs.length : Int) ≠ 0 by omega)
        have h2 := Int.emod_lt_of_pos (k + 1) (show 0 < (cs.length : Int) by omega)
        omega
      obtain ⟨x, hx⟩ : ∃ x, cs[((k + 1) % (((cs.map V.int).length : Nat) : Int)).toNat]? = some x := ⟨_, List.getElem?_eq_getElem hm⟩
      walk_at "go"
      refine ⟨w, .int (k + 1), rfl, dg_drawn hw2, ?_⟩
      walk_at "go"
      refine go_ixLi (xs := cs.map V.int) (v := .int x) hc2 (j := ((k + 1) % (((cs.map V.int).length : Nat) : Int)).toNat) ?_ (by rw [List.getElem?_map, hx]; rfl) ?_
      · rw [Int.toNat_of_nonneg (Int.emod_nonneg _ (by rw [List.length_map]; omega))]
      walk_at "go"
      refine ⟨w, .int M, rfl, dg_whole hw2, ?_⟩
      walk_at "go"
      exact q _ _ s2 ⟨[], cs, M, k + 1, e1, e2, e3, hw2, hg2, hc2, h0, hgs, hcs⟩ (Int.emod_nonneg _ (by omega)) (Int.emod_lt_of_pos _ n0)
/-- one of the items -/
def spPick : Sp := fun vs H Q _ => ∃ (w g c l : Addr) (xs : List V), vs = [.ref w, .ref l] ∧ Dk w g c H ∧ Ac w g c H l (.lst xs) ∧ 0 < xs.length ∧ xs.length < 1000000 ∧
  ∀ x H', x ∈ xs → Go w g H H' → Dk w g c H' → Q x H'
theorem ok_pick : FnOk P wd K mg base CX0 2 T.a_pick T.d_pick ["_law_deck_here", "_law_items"] spPick := by
  have G_draw : FnOk P wd K mg base CX0 1 T.a_draw T.d_draw ["_law_deck_here", "_law_many"] spDraw := ok_draw T
  refine T.F_pick.ok sc_pick (fun vs H Q E h => ?_) (fun cdv A outer s H vs Q E hr h => ?_)
  · obtain ⟨w, g, c, l, xs, rfl, _⟩ := h
    rfl
  · obtain ⟨w, g, c, l, xs, rfl, W, L, l0, l1, q⟩ := h
    refine ⟨_, (pss_one (ps_ret (pe_ix ix_list (pv 1) (pe_call G_draw hr rfl T.g_draw T.F_draw.kp (b_draw T) .nil pass0 (pa_cons (pv 0) (pa_cons (pe_callB call_len_seq rfl T.n_len PySem.boot_len (pa_cons (pv 1) pa_nil)) pa_nil))) (fun _ _ => rfl)))), ?_⟩
    have hl := L.at_
    walk_at "go"
    refine ⟨w, g, c, _, rfl, W, by omega, by omega, fun d H' s1 W1 d0 d1 => ?_⟩
    have hl1 := (L.go s1).at_
    obtain ⟨x, hx⟩ : ∃ x, xs[d.toNat]? = some x := ⟨_, List.getElem?_eq_getElem (by omega)⟩
    refine go_ixLi hl1 (j := d.toNat) (by omega) hx ?_
    exact q x H' (List.mem_of_getElem? hx) s1 W1
end
set_option pp.deepTerms false
set_option pp.deepTerms.threshold 5
section
variable {P : Program} {wd : World} {K : PySem.W.Frag} {mg : Str → Option Value} {base : Heap} (T : Tp K mg)
abbrev nV (l : List Nat) : List V := l.map fun k => V.int (k : Nat)
theorem nV_len (l : List Nat) : (nV l).length = l.length := List.length_map ..
theorem nV_get {l : List Nat} {i : Nat} {v : V} (h : (nV l)[i]? = some v) : ∃ k, l[i]? = some k ∧ v = .int (k : Nat) := by
  rw [List.getElem?_map] at h
  cases e : l[i]? with
  | none => rw [e] at h; cases h
  | some k => rw [e] at h; exact ⟨k, rfl, (Option.some.inj h).symm⟩
theorem nV_snoc (l : List Nat) (a : Nat) : nV (l ++ [a]) = nV l ++ [.int (a : Nat)] := List.map_append
theorem nV_rev (l : List Nat) : (nV l).reverse = nV l.reverse := (List.map_reverse ..).symm
def spSum : Sp := fun vs H Q _ => ∃ (af al : Addr) (m : Nat) (fs as : List Nat), vs = [.int m, .ref af, .ref al] ∧ H af = some (.tup (nV fs)) ∧ (H al = some (.lst (nV as)) ∨ H al = some (.tup (nV as))) ∧
  0 < m ∧ fs.length ≤ 4 ∧ (∀ f, f ∈ fs → f < 10) ∧ (∀ a, a ∈ as → a < 10) ∧ as.length ≤ 1000 ∧ ∀ H', Same H H' → Q (.int ((nxt m fs as : Nat) : Int)) H'
theorem to_val {R : V → Hp → Prop} {v v' : V} {H : Hp} (e : v = v') (h : R v' H) : R v H := e ▸ h
theorem zw_succ {fs as : List Nat} {i f a : Nat} (hf : fs[i]? = some f) (ha : as[i]? = some a) : (List.zipWith (· * ·) fs as).take (i + 1) = (List.zipWith (· * ·) fs as).take i ++ [f * a] := by
  have e : (List.zipWith (· * ·) fs as)[i]? = some (f * a) := by
    rw [List.getElem?_zipWith, hf, ha]
  rw [List.take_add_one, e]
  rfl
theorem sum_nat (l : List Nat) : (l.map fun k => ((k : Nat) : Int)).sum = ((l.sum : Nat) : Int) := by
  induction l with
  | nil => rfl
  | cons a l ih => rw [List.map_cons, List.sum_cons, ih, List.sum_cons]; omega
theorem nV_ints (l : List Nat) : nV l = (l.map fun k => ((k : Nat) : Int)).map V.int := by rw [List.map_map]; rfl
theorem ok_sum_ahead : FnOk P wd K mg base CX0 1 T.a_sum_ahead T.d_sum_ahead ["modulus", "factors", "ahead"] spSum := by
  refine T.F_sum_ahead.ok sc_sum_ahead (fun vs H Q E h => ?_) (fun cdv A outer s H vs Q E hr h => ?_)
  · obtain ⟨af, al, m, fs, as, rfl, _⟩ := h
    rfl
  · obtain ⟨af, al, m, fs, as, rfl, hf, ha, m0, f4, fm, am, al1, q⟩ := h
    refine ⟨_, (pss_one (ps_ret (pe_op op_mod (pe_callB (cr_sum rfl) rfl T.n_sum (by decide +kernel) (pa_cons (pe_lc (own := [("factor", 3), ("number", 4)]) (g := gTup K 2 (gCons (gName 3) (gCons (gName 4) gNil))) rfl sc_sum_ahead.nd (PI.or (pi_zipM rfl T.n_zip (pa_cons (pv 1) (pa_cons (pe_revL (pv 2)) pa_nil))) (RZ.pi_zipA rfl T.n_zip (pa_cons (pv 1) (pa_cons (pe_revT (pv 2)) pa_nil)))) (blkOk_by (N := nm_sum_ahead) (sc := defScope s_sum_ahead) (by decide +kernel)) (fun _ _ _ _ _ => pg_tup rfl (pgs_cons (pg_name (i := 3) sc_sum_ahead.nd rfl (Or.inl rfl) (Or.inr rfl)) (pgs_cons (pg_name (i := 4) sc_sum_ahead.nd rfl (Or.inl rfl) (Or.inr rfl)) pgs_nil))) (fun _ _ _ _ _ => pts_nil) (fun _ _ _ _ _ => (pe_op op_mul (pv 3) (pv 4)))) pa_nil)) (pv 0)))), ?_⟩
    have nn : ∀ i f a : Nat, fs[i]? = some f → as.reverse[i]? = some a → f < 10 ∧ a < 10 := fun i f a h1 h2 =>
      ⟨fm f (List.mem_of_getElem? h1), am a (List.mem_reverse.mp (List.mem_of_getElem? h2))⟩
    rcases ha with ha | ha
    · walk_at "go"
      intro ar nr
      generalize hU : upd H ar _ = H1
      obtain ⟨s1, hr1⟩ := new_of0 nr hU
      rw [nV_rev] at hr1
      walk_at "go"
      refine ⟨af, ar, nV fs, nV as.reverse, rfl, sqT_of (s1 _ _ hf), sqL_of hr1, fun D nD => ?_⟩
      refine lc_it (walk_zipM rfl) (fun i H2 => H2 D = some (.lst (nV ((List.zipWith (· * ·) fs as.reverse).take i))) ∧ Same H1 H2) ⟨upd_same, same_new nD⟩
        (fun i H2 _ p => ⟨sqT_of (p.2 _ _ (s1 _ _ hf)), sqL_of (p.2 _ _ hr1)⟩) (fun i x H2 H3 hi p y => ?_) (fun H2 p => ?_)
      · obtain ⟨hD, S⟩ := p
        obtain ⟨T', x, y, rfl, hT, rfl, hx, hy⟩ := y
        obtain ⟨f, ef, rfl⟩ := nV_get hx
        obtain ⟨a, ea, rfl⟩ := nV_get hy
        obtain ⟨f10, a10⟩ := nn i f a ef ea
        generalize hU2 : upd H2 T' _ = H4
        obtain ⟨s4, hT4⟩ := new_of0 hT hU2
        have hD4 := s4 _ _ hD
        have S4 := S.trans s4
        walk_at "go"
        have i4 : i < 4 := by rw [nV_len] at hi; omega
        refine ⟨_, hD4, small1000 (by rw [nV_len, List.length_take]; omega), ?_⟩
        refine ⟨?_, same_mut S4 nD⟩
        rw [upd_same, zw_succ ef ea, nV_snoc, Int.natCast_mul]
      · obtain ⟨hD, S⟩ := p
        rw [List.take_of_length_le (by rw [List.length_zipWith, nV_len, nV_len]; exact Nat.le_refl _)] at hD
        refine ⟨D, (List.zipWith (· * ·) fs as.reverse).map fun k => ((k : Nat) : Int), rfl, sqL_of (by rw [hD, nV_ints]), ?_⟩
        rw [sum_nat]
        walk_at "go"
        refine to_val ?_ (q H2 (s1.trans S))
        show V.int (_ % _) = _
        rw [← Int.natCast_emod]
        rfl
    · refine Or.inr ?_
      walk_at "go"
      intro ar nr
      generalize hU : upd H ar _ = H1
      obtain ⟨s1, hr1⟩ := new_of0 nr hU
      rw [nV_rev] at hr1
      walk_at "go"
      refine ⟨af, ar, nV fs, nV as.reverse, rfl, .inr ⟨sqT_of (s1 _ _ hf), sqT_of hr1, fun D nD => ?_⟩⟩
      refine lc_it (walk_zipT rfl) (fun i H2 => H2 D = some (.lst (nV ((List.zipWith (· * ·) fs as.reverse).take i))) ∧ Same H1 H2) ⟨upd_same, same_new nD⟩
        (fun i H2 _ p => ⟨sqT_of (p.2 _ _ (s1 _ _ hf)), sqT_of (p.2 _ _ hr1)⟩) (fun i x H2 H3 hi p y => ?_) (fun H2 p => ?_)
      · obtain ⟨hD, S⟩ := p
        obtain ⟨T', x, y, rfl, hT, rfl, hx, hy⟩ := y
        obtain ⟨f, ef, rfl⟩ := nV_get hx
        obtain ⟨a, ea, rfl⟩ := nV_get hy
        obtain ⟨f10, a10⟩ := nn i f a ef ea
        generalize hU2 : upd H2 T' _ = H4
        obtain ⟨s4, hT4⟩ := new_of0 hT hU2
        have hD4 := s4 _ _ hD
        have S4 := S.trans s4
        walk_at "go"
        have i4 : i < 4 := by rw [nV_len] at hi; omega
        refine ⟨_, hD4, small1000 (by rw [nV_len, List.length_take]; omega), ?_⟩
        refine ⟨?_, same_mut S4 nD⟩
        rw [upd_same, zw_succ ef ea, nV_snoc, Int.natCast_mul]
      · obtain ⟨hD, S⟩ := p
        rw [List.take_of_length_le (by rw [List.length_zipWith, nV_len, nV_len]; exact Nat.le_refl _)] at hD
        refine ⟨D, (List.zipWith (· * ·) fs as.reverse).map fun k => ((k : Nat) : Int), rfl, sqL_of (by rw [hD, nV_ints]), ?_⟩
        rw [sum_nat]
        walk_at "go"
        refine to_val ?_ (q H2 (s1.trans S))
        show V.int (_ % _) = _
        rw [← Int.natCast_emod]
        rfl
end
set_option pp.deepTerms false
set_option pp.deepTerms.threshold 5
section
variable {P : Program} {wd : World} {K : PySem.W.Frag} {mg : Str → Option Value} {base : Heap} (T : Tp K mg)
/-- a rule at r -/
structure RuleAt (H : Hp) (r af ab : Addr) (m : Nat) (fs bs : List Nat) : Prop where
  at_ : H r = some (.tup [.int m, .ref af, .ref ab])
  fat : H af = some (.tup (nV fs))
  bat : H ab = some (.tup (nV bs))
  rl : Rl m fs bs
theorem RuleAt.same {H H' : Hp} {r af ab : Addr} {m : Nat} {fs bs : List Nat} (x : RuleAt H r af ab m fs bs) (s : Same H H') : RuleAt H' r af ab m fs bs :=
  ⟨s _ _ x.at_, s _ _ x.fat, s _ _ x.bat, x.rl⟩
theorem RuleAt.go {w g c : Addr} {H H' : Hp} {r af ab : Addr} {m : Nat} {fs bs : List Nat} (x : RuleAt H r af ab m fs bs) (W : Dk w g c H) (s : Go w g H H') : RuleAt H' r af ab m fs bs :=
  ⟨((W.tup x.at_).go s).at_, ((W.tup x.fat).go s).at_, ((W.tup x.bat).go s).at_, x.rl⟩
theorem cutV_last {xs : List V} {k : Nat} (k1 : 1 ≤ k) (hk : k ≤ xs.length) : cutV xs (some (-(k : Int))) none = xs.drop (xs.length - k) := by
  unfold cutV
  have e : HT.sIx xs.length 0 (some (-(k : Int))) = xs.length - k := by
    show (if (-(k : Int)) < 0 then (-(k : Int) + (xs.length : Int)).toNat else _) = _
    rw [if_pos (by omega)]
    omega
  rw [e]
  show (xs.drop (xs.length - k)).take (xs.length - (xs.length - k)) = _
  rw [List.take_of_length_le (by rw [List.length_drop]; omega)]
theorem cutV_to {xs : List V} {n : Nat} : cutV xs none (some (n : Int)) = xs.take n := by
  unfold cutV
  rw [sIx_of _ _ (by omega)]
  show (xs.drop 0).take (min (n : Int).toNat xs.length - 0) = _
  rw [List.drop_zero, Nat.sub_zero, Int.toNat_natCast, ← List.take_eq_take_min]
theorem cutV_from1 {xs : List V} (h : 1 ≤ xs.length) : cutV xs (some 1) none = xs.drop 1 := by
  unfold cutV
  rw [sIx_of _ _ (by omega)]
  show (xs.drop (min (1 : Int).toNat xs.length)).take (xs.length - min (1 : Int).toNat xs.length) = _
  rw [show min (1 : Int).toNat xs.length = 1 by show min 1 xs.length = 1; omega, List.take_of_length_le (by rw [List.length_drop]; omega)]
theorem nV_take (l : List Nat) (n : Nat) : (nV l).take n = nV (l.take n) := by rw [← List.map_take]
theorem nV_drop (l : List Nat) (n : Nat) : (nV l).drop n = nV (l.drop n) := by rw [← List.map_drop]
theorem rl10 {m : Nat} {fs bs : List Nat} (r : Rl m fs bs) : (∀ f, f ∈ fs → f < 10) ∧ ∀ n a, a ∈ st m fs bs n → a < 10 := by
  have := r.m9
  exact ⟨fun f hf => by have := r.fm f hf; omega, fun n a ha => by have := st_lt r n a ha; omega⟩
def spValues : Sp := fun vs H Q _ => ∃ (r af ab : Addr) (m : Nat) (fs bs : List Nat) (n : Nat), vs = [.ref r, .int n] ∧ RuleAt H r af ab m fs bs ∧ n ≤ 40000 ∧
  ∀ p H', Same H H' → H' p = some (.tup (nV (rw_ m fs bs n))) → Q (.ref p) H'
theorem ok_values : FnOk P wd K mg base CX0 2 T.a_values T.d_values ["rule", "many"] spValues := by
  have G_sum_ahead : FnOk P wd K mg base CX0 1 T.a_sum_ahead T.d_sum_ahead ["modulus", "factors", "ahead"] spSum := ok_sum_ahead T
  refine T.F_values.ok sc_values (fun vs H Q E h => ?_) (fun cdv A outer s H vs Q E hr h => ?_)
  · obtain ⟨r, af, ab, m, fs, bs, n, rfl, _⟩ := h
    rfl
  · obtain ⟨r, af, ab, m, fs, bs, n, rfl, R, n4, q⟩ := h
    refine ⟨_, (pss_cons (ps_asg (pv 0) (pg_tup rfl (pgs_cons (pg_name (i := 2) sc_values.nd rfl (Or.inl rfl)) (pgs_cons (pg_name (i := 3) sc_values.nd rfl (Or.inl rfl)) (pgs_cons (pg_name (i := 4) sc_values.nd rfl (Or.inl rfl)) pgs_nil)))))
      (pss_cons (ps_set (i := 5) sc_values.nd rfl (Or.inl rfl) (pe_callTy call_list_of rfl T.n_list (by decide +kernel) (pa_cons (pv 4) pa_nil)))
      (pss_cons (ps_while PassesOwn.never (pt_cmpR op_lt (pe_callB call_len_seq rfl T.n_len PySem.boot_len (pa_cons (pv 5) pa_nil)) (pv 1) (nomark _)) (pss_one (ps_expr (pe_bm PySem.F.plainAttrs_list PySem.F.slot_list_append PySem.F.type_list_append mt_append (pv 5) (pa_cons (pe_call G_sum_ahead hr rfl T.g_sum_ahead T.F_sum_ahead.kp (b_sum_ahead T) .nil pass0 (pa_cons (pv 2) (pa_cons (pv 3) (pa_cons (pe_slice sl_list (pv 5) (po_some (pe_un un_neg (pe_callB call_len_seq rfl T.n_len PySem.boot_len (pa_cons (pv 3) pa_nil)))) po_none) pa_nil)))) pa_nil)))))
      (pss_one (ps_ret (pe_callTy call_tuple_of rfl T.n_tuple (by decide +kernel) (pa_cons (pe_slice sl_list (pv 5) po_none (po_some (pv 1))) pa_nil))))))), ?_⟩
    have h1 := R.at_
    have rl := R.rl
    have f1 := rl.f1
    have f4 := rl.f4
    walk_at "go"
    refine ⟨ab, _, rfl, .inr (sqT_of R.bat), fun L nL => ?_⟩
    have s0 : Same H (upd H L (.lst (nV bs))) := same_new nL
    refine ⟨fun μ σ H2 => ∃ (j : Nat) (H3 : Hp), σ = [some (.ref r), some (.int n), some (.int m), some (.ref af), some (.ref ab), some (.ref L)] ∧ H2 = upd H3 L (.lst (nV (rw_ m fs bs j))) ∧ Same H H3 ∧ fs.length ≤ j ∧ (j ≤ n ∨ j = fs.length) ∧ μ = n - j,
      ⟨n - fs.length, fs.length, H, rfl, by rw [rw_begin rl], Same.rfl', Nat.le_refl _, .inr rfl, rfl⟩, fun μ σ H2 p => ?_⟩
    obtain ⟨j, H3, rfl, rfl, S, hj, hjn, rfl⟩ := p
    have hL : (upd H3 L (.lst (nV (rw_ m fs bs j)))) L = some (.lst (nV (rw_ m fs bs j))) := upd_same
    have S1 : Same H (upd H3 L (.lst (nV (rw_ m fs bs j)))) := same_mut S nL
    generalize upd H3 L (.lst (nV (rw_ m fs bs j))) = H4 at hL S1
    have hfa := S1 _ _ R.fat
    walk_at "go"
    refine ifD (fun lt => ?_) (fun nlt => ?_)
    · rw [nV_len, rw_len] at lt
      refine ⟨fun σ' H' => σ' = [some (.ref r), some (.int n), some (.int m), some (.ref af), some (.ref ab), some (.ref L)] ∧ ∃ H3 : Hp, H' = upd H3 L (.lst (nV (rw_ m fs bs (j + 1)))) ∧ Same H H3, fun σ' H' p => ?_, ?_⟩
      · obtain ⟨rfl, H3, rfl, S3⟩ := p
        exact ⟨n - (j + 1), by omega, j + 1, H3, rfl, rfl, S3, by omega, by omega, rfl⟩
      · refine ⟨_, rfl, ?_⟩
        refine ⟨Or.inl ⟨rfl, _, sqL_of hL⟩, ?_⟩
        walk_at "go"
        intro D nD
        generalize hU : upd H4 D _ = H5
        obtain ⟨s5, hD⟩ := new_of0 nD hU
        have e1 : cutV (nV (rw_ m fs bs j)) (some (-(((nV fs).length : Nat) : Int))) none = nV (st m fs bs (j - fs.length)) := by
          rw [cutV_last (by rw [nV_len]; omega) (by rw [nV_len, nV_len, rw_len]; omega), nV_drop, nV_len, nV_len, rw_len]
          congr 1
          have := st_row rl (j - fs.length)
          rw [show j - fs.length + fs.length = j by omega] at this
          exact this
        refine ⟨af, D, m, fs, st m fs bs (j - fs.length), rfl, s5 _ _ hfa, .inl (by rw [hD, e1]), by have := rl.m2; omega, f4, (rl10 rl).1, (rl10 rl).2 _, by rw [st_len rl]; omega, fun H6 s6 => ?_⟩
        have hL6 := s6 _ _ (s5 _ _ hL)
        have e2 : nxt m fs (st m fs bs (j - fs.length)) = xv m fs bs j := by
          have := x_next rl (j - fs.length)
          rw [show j - fs.length + fs.length = j by omega] at this
          exact this.symm
        rw [e2]
        refine ⟨L, _, _, rfl, rfl, hL6, Nat.lt_of_le_of_lt (by rw [nV_len, rw_len]; omega : _ ≤ 40000) (by decide), ?_⟩
        refine ⟨rfl, H6, by rw [rw_succ, nV_snoc], (S1.trans s5).trans s6⟩
    · rw [nV_len, rw_len] at nlt
      walk_at "go"
      intro D nD
      generalize hU : upd H4 D _ = H5
      obtain ⟨s5, hD⟩ := new_of0 nD hU
      rw [cutV_to, nV_take, rw_take, Nat.min_eq_left (by omega)] at hD
      refine ⟨D, _, rfl, .inl ⟨sqL_of hD, fun p np => ?_⟩⟩
      exact q p _ ((S1.trans s5).trans (same_new np)) upd_same
/-- the key of a state -/
def keyL (l : List Nat) : List Key := l.map fun k => Sum.inl ((k : Nat) : Int)
theorem keyL_kV (l : List Nat) : (keyL l).map kV = nV l := by
  unfold keyL
  rw [List.map_map]
  rfl
theorem keyL_inj {l k : List Nat} (h : keyL l = keyL k) : l = k := by
  unfold keyL at h
  refine (List.map_inj_right (f := fun k : Nat => (Sum.inl ((k : Nat) : Int) : Key)) fun x y e => ?_).mp h
  have := Sum.inl.inj e
  omega
/-- the states so far and their places -/
structure Seen (m : Nat) (fs bs : List Nat) (n : Nat) (kvs : List (List Key × V)) : Prop where
  len : kvs.length = n
  at_ : ∀ j, j < n → valV kvs (keyL (st m fs bs j)) = some (.int (j : Nat))
  no : ∀ l, (∀ j, j < n → st m fs bs j ≠ l) → valV kvs (keyL l) = none
  ne : ∀ i j, i < j → j < n → st m fs bs i ≠ st m fs bs j
theorem Seen.put {m : Nat} {fs bs : List Nat} {n : Nat} {kvs : List (List Key × V)} (x : Seen m fs bs n kvs) (h : ∀ j, j < n → st m fs bs j ≠ st m fs bs n) :
    Seen m fs bs (n + 1) (putK kvs (keyL (st m fs bs n)) (.int (n : Nat))) := by
  refine ⟨?_, fun j hj => ?_, fun l hl => ?_, fun i j hij hj => ?_⟩
  · rw [putK_new _ (x.no _ h), List.length_append, x.len]
    rfl
  · rw [valV_put]
    by_cases e : j = n
    · subst e
      rw [if_pos rfl]
    · rw [if_neg fun z => h j (by omega) (keyL_inj z), x.at_ j (by omega)]
  · rw [valV_put, if_neg fun z => hl n (by omega) (keyL_inj z).symm, x.no l fun j hj => hl j (by omega)]
  · by_cases e : j = n
    · subst e
      exact h i hij
    · exact x.ne i j hij (by omega)
theorem st_tail (m : Nat) (fs bs : List Nat) (n : Nat) : st m fs bs (n + 1) = (st m fs bs n).drop 1 ++ [nxt m fs (st m fs bs n)] := by
  rw [List.drop_one]
  rfl
def spRound : Sp := fun vs H Q _ => ∃ (r af ab : Addr) (m : Nat) (fs bs : List Nat), vs = [.ref r] ∧ RuleAt H r af ab m fs bs ∧
  ∀ p H' (h t : Nat), Same H H' → IsRound m fs bs h t → H' p = some (.tup [.int h, .int t]) → Q (.ref p) H'
theorem ok_round_of : FnOk P wd K mg base CX0 2 T.a_round_of T.d_round_of ["rule"] spRound := by
  have G_sum_ahead : FnOk P wd K mg base CX0 1 T.a_sum_ahead T.d_sum_ahead ["modulus", "factors", "ahead"] spSum := ok_sum_ahead T
  refine T.F_round_of.ok sc_round_of (fun vs H Q E h => ?_) (fun cdv A outer s H vs Q E hr h => ?_)
  · obtain ⟨r, af, ab, m, fs, bs, rfl, _⟩ := h
    rfl
  · obtain ⟨r, af, ab, m, fs, bs, rfl, R, q⟩ := h
    refine ⟨_, (pss_cons (ps_asg (pv 0) (pg_tup rfl (pgs_cons (pg_name (i := 1) sc_round_of.nd rfl (Or.inl rfl)) (pgs_cons (pg_name (i := 2) sc_round_of.nd rfl (Or.inl rfl)) (pgs_cons (pg_name (i := 3) sc_round_of.nd rfl (Or.inl rfl)) pgs_nil)))))
      (pss_cons (ps_set (i := 4) sc_round_of.nd rfl (Or.inl rfl) pe_dnewT)
      (pss_cons (ps_while PassesOwn.never (pt_cmp (pc_dnotin (hu_of hr) (pv 3) (pv 4))) (pss_cons (ps_dput (hu_of hr) (pv 4) (pv 3) (pe_callB call_len_dT rfl T.n_len PySem.boot_len (pa_cons (pv 4) pa_nil)) rfl)
      (pss_one (ps_set (i := 3) sc_round_of.nd rfl (Or.inl rfl) (pe_op op_catA (pe_slice sl_tupA (pv 3) (po_some pe_int) po_none) (pe_tup (pa_cons (pe_call G_sum_ahead hr rfl T.g_sum_ahead T.F_sum_ahead.kp (b_sum_ahead T) .nil pass0 (pa_cons (pv 1) (pa_cons (pv 2) (pa_cons (pv 3) pa_nil)))) pa_nil)))))))
      (pss_one (ps_ret (pe_tup (pa_cons (pe_dget (hu_of hr) (pv 4) (pv 3) (fun _ _ => rfl)) (pa_cons (pe_op op_sub (pe_callB call_len_dT rfl T.n_len PySem.boot_len (pa_cons (pv 4) pa_nil)) (pe_dget (hu_of hr) (pv 4) (pv 3) (fun _ _ => rfl))) pa_nil)))))))), ?_⟩
    have h1 := R.at_
    have rl := R.rl
    have f1 := rl.f1
    have f4 := rl.f4
    have big := rl.big
    walk_at "go"
    intro D nD
    refine ⟨fun μ σ H2 => ∃ (n : Nat) (ah : Addr) (kvs : List (List Key × V)), σ = [some (.ref r), some (.int m), some (.ref af), some (.ref ah), some (.ref D)] ∧ H2 D = some (.dT kvs) ∧ Same H H2 ∧ H2 ah = some (.tup (nV (st m fs bs n))) ∧ Seen m fs bs n kvs ∧ μ = m ^ fs.length - n,
      ⟨m ^ fs.length - 0, 0, ab, [], rfl, upd_same, same_new nD, (upd_ne (ne_of_none R.bat nD)).trans R.bat, ⟨rfl, fun j hj => by omega, fun l _ => rfl, fun i j _ hj => by omega⟩, rfl⟩, fun μ σ H4 p => ?_⟩
    obtain ⟨n, ah, kvs, rfl, hD, S1, hah4, X, rfl⟩ := p
    have hfa := S1 _ _ R.fat
    have hk : H4 ah = some (.tup ((keyL (st m fs bs n)).map kV)) := by rw [keyL_kV]; exact hah4
    walk_at "go"
    refine ⟨D, _, rfl, DGet.t (k := keyL (st m fs bs n)) hD hk, ?_⟩
    by_cases c : ∀ j, j < n → st m fs bs j ≠ st m fs bs n
    · rw [X.no _ c]
      refine ⟨true, rfl, ifT ?_⟩
      have XP := X.put c
      have hn := ne_bound rl XP.ne
      refine ⟨fun σ' H' => ∃ ah' : Addr, σ' = [some (.ref r), some (.int m), some (.ref af), some (.ref ah'), some (.ref D)] ∧ H' D = some (.dT (putK kvs (keyL (st m fs bs n)) (.int (n : Nat)))) ∧ Same H H' ∧ H' ah' = some (.tup (nV (st m fs bs (n + 1)))), fun σ' H' p => ?_, ?_⟩
      · obtain ⟨ah', rfl, hD', S', ha'⟩ := p
        exact ⟨m ^ fs.length - (n + 1), by omega, n + 1, ah', _, rfl, hD', S', ha', XP, rfl⟩
      · walk_at "go"
        refine ⟨D, kvs, rfl, hD, ?_⟩
        walk_at "go"
        refine ⟨D, _, rfl, DPut.t (k := keyL (st m fs bs n)) hD hk (Nat.lt_of_le_of_lt (by rw [X.len]; omega : _ ≤ 5000) (by decide)), ?_⟩
        rw [X.len]
        have nah : ah ≠ D := ne_of hah4 hD (by intro z; cases z)
        generalize hU : upd H4 D _ = H5
        have hD5 : H5 D = some (.dT (putK kvs (keyL (st m fs bs n)) (.int (n : Nat)))) := by rw [← hU]; exact upd_same
        have hah5 : H5 ah = some (.tup (nV (st m fs bs n))) := by rw [← hU]; exact (upd_ne nah).trans hah4
        have S5 : Same H H5 := by rw [← hU]; exact same_mut S1 nD
        walk_at "go"
        have ln : (nV (st m fs bs n)).length = fs.length := by rw [nV_len, st_len rl]
        refine ⟨ah, _, rfl, sqT_of hah5, fun z => ?_, fun _ a1 na1 => ?_⟩
        · exfalso
          have z1 := z.1
          rw [sIx_of _ _ (by omega), ln] at z1
          have : (1 : Int).toNat = 1 := rfl
          omega
        · rw [cutV_from1 (by omega), nV_drop]
          generalize hU1 : upd H5 a1 _ = H6
          obtain ⟨s6, ha1⟩ := new_of0 na1 hU1
          walk_at "go"
          refine ⟨af, ah, m, fs, st m fs bs n, rfl, s6 _ _ (S5 _ _ R.fat), .inr (s6 _ _ hah5), by have := rl.m2; omega, f4, (rl10 rl).1, (rl10 rl).2 _, by rw [st_len rl]; omega, fun H7 s7 => ?_⟩
          walk_at "go"
          intro a2 na2
          generalize hU2 : upd H7 a2 _ = H8
          obtain ⟨s8, ha2⟩ := new_of0 na2 hU2
          have S8 := (s6.trans s7).trans s8
          have ha18 := s8 _ _ (s7 _ _ ha1)
          have e2 := st_tail m fs bs n
          refine ⟨a1, a2, _, _, rfl, rfl, sqT_of ha18, sqT_of ha2, szl (by rw [nV_len, List.length_drop, st_len rl]; simp; omega), fun z => ?_, fun _ z => (nomatch z), fun z _ a3 na3 => ?_⟩
          · refine ⟨a2, rfl, S8 _ _ hD5, S5.trans S8, ?_⟩
            have z2 : (st m fs bs n).drop 1 = [] := List.map_eq_nil_iff.mp z
            rw [e2, z2]
            exact ha2
          · refine ⟨a3, rfl, ?_, (S5.trans S8).trans (same_new na3), ?_⟩
            · exact same_new na3 _ _ (S8 _ _ hD5)
            · rw [upd_same, e2, nV_snoc]
    · obtain ⟨h, hn, eh⟩ : ∃ h, h < n ∧ st m fs bs h = st m fs bs n := Classical.byContradiction fun z => c fun j hj e => z ⟨j, hj, e⟩
      have e1 : valV kvs (keyL (st m fs bs n)) = some (.int (h : Nat)) := by rw [← eh, X.at_ h hn]
      rw [e1]
      refine ⟨false, rfl, ifF ?_⟩
      walk_at "go"
      refine ⟨D, _, rfl, e1 ▸ DGet.t (k := keyL (st m fs bs n)) hD hk, ?_⟩
      walk_at "go"
      refine ⟨D, kvs, rfl, hD, ?_⟩
      walk_at "go"
      refine ⟨D, _, rfl, e1 ▸ DGet.t (k := keyL (st m fs bs n)) hD hk, ?_⟩
      walk_at "go"
      intro p np
      refine q p _ h (n - h) (S1.trans (same_new np)) ⟨by omega, ?_, fun i j hij hj => X.ne i j hij (by omega)⟩ ?_
      · rw [show h + (n - h) = n by omega]
        exact eh.symm
      · rw [upd_same, X.len]
        have : (n : Int) - (h : Int) = ((n - h : Nat) : Int) := by omega
        show some (HO.tup [V.int _, V.int (_ - _)]) = _
        rw [this]
end
set_option pp.deepTerms false
set_option pp.deepTerms.threshold 5
section
variable {P : Program} {wd : World} {K : PySem.W.Frag} {mg : Str → Option Value} {base : Heap} (T : Tp K mg)
theorem same_none {H H' : Hp} {p : Addr} (S : Same H H') (h : H' p = none) : H p = none := by
  cases e : H p with
  | none => rfl
  | some x => rw [S _ _ e] at h; cases h
def spRow : Sp := fun vs H Q _ => ∃ (r af ab : Addr) (m : Nat) (fs bs : List Nat) (n : Nat), vs = [.ref r, .int n] ∧ RuleAt H r af ab m fs bs ∧ n ≤ 40000 ∧
  ∀ p H', Same H H' → H p = none → H' p = some (.lst (nV (rw_ m fs bs n))) → Q (.ref p) H'
theorem ok_row : FnOk P wd K mg base CX0 1 T.a_row T.d_row ["_law_rule_here", "_law_many"] spRow := by
  refine T.F_row.ok sc_row (fun vs H Q E h => ?_) (fun cdv A outer s H vs Q E hr h => ?_)
  · obtain ⟨r, af, ab, m, fs, bs, n, rfl, _⟩ := h
    rfl
  · obtain ⟨r, af, ab, m, fs, bs, n, rfl, R, n4, q⟩ := h
    refine ⟨_, (pss_cons (ps_asg (pv 0) (pg_tup rfl (pgs_cons (pg_name (i := 2) sc_row.nd rfl (Or.inl rfl)) (pgs_cons (pg_name (i := 3) sc_row.nd rfl (Or.inl rfl)) (pgs_cons (pg_name (i := 4) sc_row.nd rfl (Or.inl rfl)) pgs_nil)))))
      (pss_cons (ps_set (i := 5) sc_row.nd rfl (Or.inl rfl) (pe_callTy call_list_of rfl T.n_list (by decide +kernel) (pa_cons (pv 4) pa_nil)))
      (pss_cons (ps_while PassesOwn.never (pt_cmpR op_lt (pe_callB call_len_seq rfl T.n_len PySem.boot_len (pa_cons (pv 5) pa_nil)) (pv 1) (nomark _)) (pss_cons (ps_set (i := 6) sc_row.nd rfl (Or.inl rfl) (pe_revL (pe_slice sl_list (pv 5) (po_some (pe_un un_neg (pe_callB call_len_seq rfl T.n_len PySem.boot_len (pa_cons (pv 3) pa_nil)))) po_none)))
      (pss_one (ps_expr (pe_bm PySem.F.plainAttrs_list PySem.F.slot_list_append PySem.F.type_list_append mt_append (pv 5) (pa_cons (pe_op op_mod (pe_callTy call_int1 rfl T.n_int (by decide +kernel) (pa_cons (pe_callB (cr_sum rfl) rfl T.n_sum (by decide +kernel) (pa_cons (pe_lc (own := [("_law_one", 7), ("_law_other", 8)]) (g := gTup K 2 (gCons (gName 7) (gCons (gName 8) gNil))) rfl sc_row.nd (pi_zipM rfl T.n_zip (pa_cons (pv 3) (pa_cons (pv 6) pa_nil))) (blkOk_by (N := nm_row) (sc := defScope s_row) (by decide +kernel)) (fun _ _ _ _ _ => pg_tup rfl (pgs_cons (pg_name (i := 7) sc_row.nd rfl (Or.inl rfl) (Or.inr rfl)) (pgs_cons (pg_name (i := 8) sc_row.nd rfl (Or.inl rfl) (Or.inr rfl)) pgs_nil))) (fun _ _ _ _ _ => pts_nil) (fun _ _ _ _ _ => (pe_op op_mul (pv 7) (pv 8)))) pa_nil)) pa_nil)) (pv 2)) pa_nil))))))
      (pss_one (ps_ret (pe_slice sl_list (pv 5) po_none (po_some (pv 1)))))))), ?_⟩
    have h1 := R.at_
    have rl := R.rl
    have f1 := rl.f1
    have f4 := rl.f4
    have m2 := rl.m2
    walk_at "go"
    refine ⟨ab, _, rfl, .inr (sqT_of R.bat), fun L nL => ?_⟩
    refine ⟨fun μ σ H2 => ∃ (j : Nat) (y6 : Option V), σ = [some (.ref r), some (.int n), some (.int m), some (.ref af), some (.ref ab), some (.ref L), y6, none, none] ∧ H2 L = some (.lst (nV (rw_ m fs bs j))) ∧ Same H H2 ∧ fs.length ≤ j ∧ (j ≤ n ∨ j = fs.length) ∧ μ = n - j,
      ⟨n - fs.length, fs.length, none, rfl, by rw [upd_same, rw_begin rl], same_new nL, Nat.le_refl _, .inr rfl, rfl⟩, fun μ σ H4 p => ?_⟩
    obtain ⟨j, y6, rfl, hL, S1, hj, hjn, rfl⟩ := p
    have hfa := S1 _ _ R.fat
    walk_at "go"
    refine ifD (fun lt => ?_) (fun nlt => ?_)
    · rw [nV_len, rw_len] at lt
      refine ⟨fun σ' H' => ∃ y6 : Option V, σ' = [some (.ref r), some (.int n), some (.int m), some (.ref af), some (.ref ab), some (.ref L), y6, none, none] ∧ H' L = some (.lst (nV (rw_ m fs bs (j + 1)))) ∧ Same H H', fun σ' H' p => ?_, ?_⟩
      · obtain ⟨y6, rfl, hL', S3⟩ := p
        exact ⟨n - (j + 1), by omega, j + 1, y6, rfl, hL', S3, by omega, by omega, rfl⟩
      · walk_at "go"
        intro D nD
        generalize hU : upd H4 D _ = H5
        obtain ⟨s5, hD⟩ := new_of0 nD hU
        have e1 : cutV (nV (rw_ m fs bs j)) (some (-(((nV fs).length : Nat) : Int))) none = nV (st m fs bs (j - fs.length)) := by
          rw [cutV_last (by rw [nV_len]; omega) (by rw [nV_len, nV_len, rw_len]; omega), nV_drop, nV_len, nV_len, rw_len]
          congr 1
          have := st_row rl (j - fs.length)
          rw [show j - fs.length + fs.length = j by omega] at this
          exact this
        rw [e1] at hD
        generalize hst : st m fs bs (j - fs.length) = as at hD
        refine ⟨D, _, rfl, sqL_of hD, fun B nB => ?_⟩
        generalize hU2 : upd H5 B _ = H6
        obtain ⟨s6, hB⟩ := new_of0 nB hU2
        rw [nV_rev] at hB
        walk_at "go"
        have hL6 := s6 _ _ (s5 _ _ hL)
        have hfa6 := s6 _ _ (s5 _ _ hfa)
        refine ⟨Or.inl ⟨rfl, _, sqL_of hL6⟩, ?_⟩
        walk_at "go"
        refine ⟨af, B, nV fs, nV as.reverse, rfl, sqT_of hfa6, sqL_of hB, fun C nC => ?_⟩
        have la : as.length = fs.length := by rw [← hst]; exact st_len rl _
        refine lc_it (walk_zipM rfl) (fun i H2 => H2 C = some (.lst (nV ((List.zipWith (· * ·) fs as.reverse).take i))) ∧ Same H6 H2) ⟨upd_same, same_new nC⟩
          (fun i H2 _ p => ⟨sqT_of (p.2 _ _ hfa6), sqL_of (p.2 _ _ hB)⟩) (fun i x H2 H3 hi p y => ?_) (fun H2 p => ?_)
        · obtain ⟨hC, S⟩ := p
          obtain ⟨T', x, y, rfl, hT, rfl, hx, hy⟩ := y
          obtain ⟨f, ef, rfl⟩ := nV_get hx
          obtain ⟨a, ea, rfl⟩ := nV_get hy
          have f10 := (rl10 rl).1 f (List.mem_of_getElem? ef)
          have a10 : a < 10 := (rl10 rl).2 (j - fs.length) a (by rw [hst]; exact List.mem_reverse.mp (List.mem_of_getElem? ea))
          generalize hU3 : upd H2 T' _ = H7
          obtain ⟨s7, hT7⟩ := new_of0 hT hU3
          have hC7 := s7 _ _ hC
          have S7 := S.trans s7
          walk_at "go"
          have i4 : i < 4 := by rw [nV_len] at hi; omega
          refine ⟨_, hC7, small1000 (by rw [nV_len, List.length_take]; omega), ?_, same_mut S7 nC⟩
          rw [upd_same, zw_succ ef ea, nV_snoc, Int.natCast_mul]
        · obtain ⟨hC, S⟩ := p
          rw [List.take_of_length_le (by rw [List.length_zipWith, nV_len, nV_len]; exact Nat.le_refl _)] at hC
          refine ⟨C, (List.zipWith (· * ·) fs as.reverse).map fun k => ((k : Nat) : Int), rfl, sqL_of (by rw [hC, nV_ints]), ?_⟩
          rw [sum_nat]
          walk_at "go"
          have hL7 := S _ _ hL6
          have e2 : (List.zipWith (· * ·) fs as.reverse).sum % m = xv m fs bs j := by
            have := x_next rl (j - fs.length)
            rw [show j - fs.length + fs.length = j by omega, hst] at this
            exact this.symm
          refine ⟨L, _, _, rfl, rfl, hL7, Nat.lt_of_le_of_lt (by rw [nV_len, rw_len]; omega : _ ≤ 40000) (by decide), ?_⟩
          refine ⟨_, rfl, ?_, ?_⟩
          · rw [upd_same, rw_succ, nV_snoc, ← e2, Int.natCast_emod]
          · exact same_mut (((S1.trans s5).trans s6).trans S) nL
    · rw [nV_len, rw_len] at nlt
      walk_at "go"
      intro D nD
      generalize hU : upd H4 D _ = H5
      obtain ⟨s5, hD⟩ := new_of0 nD hU
      rw [cutV_to, nV_take, rw_take, Nat.min_eq_left (by omega)] at hD
      exact q D H5 (S1.trans s5) (same_none S1 nD) hD
end
set_option pp.deepTerms false
set_option pp.deepTerms.threshold 5
section
variable {P : Program} {wd : World} {K : PySem.W.Frag} {mg : Str → Option Value} {base : Heap} (T : Tp K mg)
def rts : List (Key × V) := [(Sum.inl 4, .int 2), (Sum.inl 8, .int 2), (Sum.inl 9, .int 3)]
theorem rts_merge : mergeK [] rts = rts := by
  simp [mergeK, putK, rts]
theorem rts_get {m : Nat} (m2 : 2 ≤ m) (m9 : m ≤ 9) : ∃ rt : Nat, (valV rts (Sum.inl (m : Int))).getD (.int m) = .int rt ∧ 1 ≤ rt ∧ rt ≤ m := by
  have : m = 2 ∨ m = 3 ∨ m = 4 ∨ m = 5 ∨ m = 6 ∨ m = 7 ∨ m = 8 ∨ m = 9 := by omega
  rcases this with rfl | rfl | rfl | rfl | rfl | rfl | rfl | rfl
  · exact ⟨2, by simp [valV, rts], by decide, by decide⟩
  · exact ⟨3, by simp [valV, rts], by decide, by decide⟩
  · exact ⟨2, by simp [valV, rts], by decide, by decide⟩
  · exact ⟨5, by simp [valV, rts], by decide, by decide⟩
  · exact ⟨6, by simp [valV, rts], by decide, by decide⟩
  · exact ⟨7, by simp [valV, rts], by decide, by decide⟩
  · exact ⟨2, by simp [valV, rts], by decide, by decide⟩
  · exact ⟨3, by simp [valV, rts], by decide, by decide⟩
/-- so many numbers below m -/
def Some_ (k m : Nat) (l : List Nat) : Prop := l.length = k ∧ ∀ v, v ∈ l → v < m
theorem Some_.snoc {k m e : Nat} {l : List Nat} (h : Some_ k m l) (he : e < m) : Some_ (k + 1) m (l ++ [e]) := by
  refine ⟨by rw [List.length_append, h.1]; rfl, fun v hv => ?_⟩
  rcases List.mem_append.mp hv with z | z
  · exact h.2 v z
  · rw [List.mem_singleton.mp z]
    exact he
theorem sz4 {k m : Nat} {l : List Nat} (h : Some_ k m l) (hk : k ≤ 8) : (nV l).length < sizeLine := Nat.lt_of_le_of_lt (by rw [nV_len, h.1]; exact hk) (by decide)
def spRule : Sp := fun vs H Q _ => ∃ (w g c : Addr) (M : Nat), vs = [.ref w, .int M] ∧ Dk w g c H ∧ 9 ≤ M ∧ M ≤ 5000 ∧
  ∀ r af ab m fs bs H', Go w g H H' → Dk w g c H' → RuleAt H' r af ab m fs bs → m ^ fs.length ≤ M → Q (.ref r) H'
theorem Some_.set {k m e j : Nat} {l : List Nat} (h : Some_ k m l) (he : e < m) : Some_ k m (l.set j e) := by
  refine ⟨by rw [List.length_set, h.1], fun v hv => ?_⟩
  rcases List.mem_or_eq_of_mem_set hv with z | z
  · exact h.2 v z
  · rw [z]
    exact he
theorem nV_set (l : List Nat) (j e : Nat) : (nV l).set j (.int (e : Nat)) = nV (l.set j e) := (List.map_set ..).symm
theorem ix_last {n : Nat} (h : 0 < n) : ixN n (-1) = some (n - 1) := by
  unfold ixN
  rw [if_neg (by omega), if_pos (by omega)]
  congr 1
  omega
theorem rep0 (k : Nat) : (List.replicate k [V.int 0]).flatten = nV (List.replicate k 0) := by
  induction k with
  | zero => rfl
  | succ k ih => rw [List.replicate_succ, List.flatten_cons, ih, List.replicate_succ]; rfl
/-- where both lists stand -/
def NR (w g c : Addr) (M m k kd rt : Nat) (H : Hp) (σ : L2.St) (H' : Hp) : Prop := ∃ (LA LB : Addr) (fs bs : List Nat), σ = [some (.ref w), some (.int M), some (.int m), some (.int k), some (.int ((m ^ k : Nat) : Int)), some (.int kd), some (.int rt), some (.ref LA), some (.ref LB), none] ∧
  Dk w g c H' ∧ Go w g H H' ∧ Ac w g c H' LA (.lst (nV fs)) ∧ Ac w g c H' LB (.lst (nV bs)) ∧ LA ≠ LB ∧ Some_ k m fs ∧ Some_ k m bs ∧ H LA = none ∧ H LB = none
theorem go_none {w g : Addr} {H H' : Hp} {p : Addr} (S : Go w g H H') (n1 : p ≠ w) (n2 : p ≠ g) (h : H' p = none) : H p = none := by
  cases e : H p with
  | none => rfl
  | some x => rw [S _ _ n1 n2 e] at h; cases h
theorem ok_rule : FnOk P wd K mg base CX0 3 T.a_rule T.d_rule ["_law_deck_here", "_law_most"] spRule := by
  have G_draw : FnOk P wd K mg base CX0 1 T.a_draw T.d_draw ["_law_deck_here", "_law_many"] spDraw := ok_draw T
  have G_pick : FnOk P wd K mg base CX0 2 T.a_pick T.d_pick ["_law_deck_here", "_law_items"] spPick := ok_pick T
  refine T.F_rule.ok sc_rule (fun vs H Q E h => ?_) (fun cdv A outer s H vs Q E hr h => ?_)
  · obtain ⟨w, g, c, M, rfl, _⟩ := h
    rfl
  · obtain ⟨w, g, c, M, rfl, W, M9, M5, q⟩ := h
    refine ⟨_, (pss_cons (ps_set (i := 2) sc_rule.nd rfl (Or.inr rfl) (pe_op op_add pe_int (pe_call G_draw (hr.mono (by decide)) rfl T.g_draw T.F_draw.kp (b_draw T) .nil pass0 (pa_cons (pv 0) (pa_cons pe_int pa_nil)))))
      (pss_cons (ps_par (i := 3) (j := 4) rfl sc_rule.nd rfl rfl (by decide) rfl rfl (pa_cons pe_int (pa_cons (pv 2) pa_nil)) rfl)
      (C8.pss_cut (ps_while PassesOwn.never (PW.pt (pw_and (pt_cmpR op_lt (pv 3) pe_int (nomark _)) (pw_and (pt_cmpR op_le (pe_op op_mul (pv 4) (pv 2)) (pv 1) (nomark _)) (pw_and1 (pt_cmpR op_gt (pe_call G_draw (hr.mono (by decide)) rfl T.g_draw T.F_draw.kp (b_draw T) .nil pass0 (pa_cons (pv 0) (pa_cons pe_int pa_nil))) pe_int (nomark _)))))) (pss_one (ps_par (i := 3) (j := 4) rfl sc_rule.nd rfl rfl (by decide) rfl rfl (pa_cons (pe_op op_add (pv 3) pe_int) (pa_cons (pe_op op_mul (pv 4) (pv 2)) pa_nil)) rfl)))
      (pss_cons (ps_asg (pe_tup (pa_cons (pe_call G_draw (hr.mono (by decide)) rfl T.g_draw T.F_draw.kp (b_draw T) .nil pass0 (pa_cons (pv 0) (pa_cons pe_int pa_nil))) (pa_cons (pe_dget2 (hu_of hr) (pe_disp (pps_cons pe_int pe_int (pps_cons pe_int pe_int (pps_cons pe_int pe_int pps_nil))) rfl rfl (by simp) (by decide)) (pv 2) (pv 2) ⟨rfl, rfl, rfl, rfl⟩) pa_nil))) (pg_tup rfl (pgs_cons (pg_name (i := 5) sc_rule.nd rfl (Or.inl rfl)) (pgs_cons (pg_name (i := 6) sc_rule.nd rfl (Or.inr rfl)) pgs_nil))))
      (pss_cons (ps_par (i := 7) (j := 8) rfl sc_rule.nd rfl rfl (by decide) rfl rfl (pa_cons (pe_lc (own := [("_law_k", 9)]) rfl sc_rule.nd (pi_range1 rfl T.n_range (pa_cons (pv 3) pa_nil)) (blkOk_by (N := nm_rule) (sc := defScope s_rule) (by decide +kernel)) (fun _ _ _ _ _ => pg_name (i := 9) sc_rule.nd rfl (Or.inl rfl)) (fun _ _ _ _ _ => pts_nil) (fun _ _ _ _ _ => (pe_call G_draw (hr.mono (by decide)) rfl T.g_draw T.F_draw.kp (b_draw T) .nil pass0 (pa_cons (pv 0) (pa_cons (pv 2) pa_nil))))) (pa_cons (pe_lc (own := [("_law_k", 9)]) rfl sc_rule.nd (pi_range1 rfl T.n_range (pa_cons (pv 3) pa_nil)) (blkOk_by (N := nm_rule) (sc := defScope s_rule) (by decide +kernel)) (fun _ _ _ _ _ => pg_name (i := 9) sc_rule.nd rfl (Or.inl rfl)) (fun _ _ _ _ _ => pts_nil) (fun _ _ _ _ _ => (pe_call G_draw (hr.mono (by decide)) rfl T.g_draw T.F_draw.kp (b_draw T) .nil pass0 (pa_cons (pv 0) (pa_cons (pv 2) pa_nil))))) pa_nil)) rfl)
      (C8.pss_cut (ps_if (pt_cmpR op_eq (pv 5) pe_int (nomark _)) (pss_one (ps_asg (pe_call G_pick hr rfl T.g_pick T.F_pick.kp (b_pick T) .nil pass0 (pa_cons (pv 0) (pa_cons (pe_lst (pa_cons pe_int (pa_cons (pe_op op_sub (pv 2) pe_int) pa_nil))) pa_nil))) (pg_sub (pv 7) (pe_un un_neg pe_int) set_list))) pss_nil)
      (C8.pss_cut (ps_if (pt_cmpR op_eq (pv 5) pe_int (nomark _)) (pss_one (ps_setLc (i := 7) (own := [("_law_k", 9)]) rfl sc_rule.nd rfl rfl (sw_true rfl rfl rfl (by decide +kernel)) (pi_range1 rfl T.n_range (pa_cons (pv 3) pa_nil)) (blkOk_by (N := nm_rule) (sc := defScope s_rule) (by decide +kernel)) (fun _ _ _ _ _ => pg_name (i := 9) sc_rule.nd rfl (Or.inl rfl)) (fun _ _ _ _ _ => pts_nil) (fun _ _ _ _ _ => (pe_op op_mul (pv 6) (pe_call G_draw (hr.mono (by decide)) rfl T.g_draw T.F_draw.kp (b_draw T) .nil pass0 (pa_cons (pv 0) (pa_cons (pe_op op_fdiv (pv 2) (pv 6)) pa_nil))))))) pss_nil)
      (C8.pss_cut (ps_if (pt_cmpR op_eq (pv 5) pe_int (nomark _)) (pss_cons (ps_set (i := 7) sc_rule.nd rfl (Or.inl rfl) (pe_op op_rep (pe_lst (pa_cons pe_int pa_nil)) (pv 3)))
      (pss_one (ps_asg (pe_op op_add pe_int (pe_call G_draw (hr.mono (by decide)) rfl T.g_draw T.F_draw.kp (b_draw T) .nil pass0 (pa_cons (pv 0) (pa_cons (pe_op op_sub (pv 2) pe_int) pa_nil)))) (pg_sub (pv 7) (pe_call G_draw (hr.mono (by decide)) rfl T.g_draw T.F_draw.kp (b_draw T) .nil pass0 (pa_cons (pv 0) (pa_cons (pv 3) pa_nil))) set_list)))) pss_nil)
      (C8.pss_cut (ps_if (pt_cmpR op_eq (pv 5) pe_int (nomark _)) (pss_one (ps_set (i := 8) sc_rule.nd rfl (Or.inl rfl) (pe_op op_cat (pe_op op_rep (pe_lst (pa_cons pe_int pa_nil)) (pe_op op_sub (pv 3) pe_int)) (pe_lst (pa_cons pe_int pa_nil))))) pss_nil)
      (pss_one (ps_ret (pe_tup (pa_cons (pv 2) (pa_cons (pe_callTy call_tuple_of rfl T.n_tuple (by decide +kernel) (pa_cons (pv 7) pa_nil)) (pa_cons (pe_callTy call_tuple_of rfl T.n_tuple (by decide +kernel) (pa_cons (pv 8) pa_nil)) pa_nil))))))))))))))), ?_⟩
    walk_at "go"
    refine ⟨w, g, c, _, rfl, W, by omega, by omega, fun d H1 s1 W1 d0 d1 => ?_⟩
    obtain ⟨m, em⟩ : ∃ m : Nat, 2 + d = (m : Int) := ⟨(2 + d).toNat, by omega⟩
    have m2 : 2 ≤ m := by omega
    have m9 : m ≤ 9 := by omega
    refine ⟨_, _, rfl, rfl, ?_⟩
    show gName 2 (V.int (2 + d)) _ _ _
    rw [em]
    clear em
    walk_at "go"
    refine ⟨fun σ H2 => ∃ (k : Nat), σ = [some (.ref w), some (.int M), some (.int m), some (.int k), some (.int ((m ^ k : Nat) : Int)), none, none, none, none, none] ∧ Dk w g c H2 ∧ Go w g H H2 ∧ 1 ≤ k ∧ k ≤ 4 ∧ m ^ k ≤ M, ?_, fun σ H2 px => ?_⟩
    · refine ⟨fun μ σ H2 => ∃ (k : Nat), σ = [some (.ref w), some (.int M), some (.int m), some (.int k), some (.int ((m ^ k : Nat) : Int)), none, none, none, none, none] ∧ Dk w g c H2 ∧ Go w g H H2 ∧ 1 ≤ k ∧ k ≤ 4 ∧ m ^ k ≤ M ∧ μ = 4 - k,
        ⟨3, 1, by rw [Nat.pow_one]; rfl, W1, s1, by omega, by omega, by rw [Nat.pow_one]; omega, rfl⟩, fun μ σ H2 px => ?_⟩
      obtain ⟨k, rfl, W2, S2, k1, k4, kM, rfl⟩ := px
      walk_at "go"
      refine ifD (fun lt => ?_) (fun nlt => ifF ⟨k, rfl, W2, S2, k1, k4, kM⟩)
      have cm : CMul ((m ^ k : Nat) : Int) (m : Int) := .inr ⟨by omega, by omega⟩
      have ep : ((m ^ k : Nat) : Int) * (m : Int) = ((m ^ (k + 1) : Nat) : Int) := by rw [Nat.pow_succ, Int.natCast_mul]
      walk_at "go"
      refine ifD (fun fits => ?_) (fun nfits => ifF ⟨k, rfl, W2, S2, k1, k4, kM⟩)
      walk_at "go"
      refine ⟨w, g, c, _, rfl, W2, by omega, by omega, fun e H3 s3 W3 e0 e1 => ?_⟩
      walk_at "go"
      refine ifD (fun _ => ?_) (fun _ => ⟨k, rfl, W3, S2.trans s3, k1, k4, kM⟩)
      refine ⟨fun σ' H' => σ' = [some (.ref w), some (.int M), some (.int m), some (.int ((k + 1 : Nat) : Int)), some (.int ((m ^ (k + 1) : Nat) : Int)), none, none, none, none, none] ∧ H' = H3, fun σ' H' p => ?_, ?_⟩
      · obtain ⟨rfl, rfl⟩ := p
        exact ⟨4 - (k + 1), by omega, k + 1, rfl, W3, S2.trans s3, by omega, by omega, by omega, rfl⟩
      · walk_at "go"
        exact rfl
    · obtain ⟨k, rfl, W2, S2, k1, k4, kM⟩ := px
      walk_at "go"
      refine ⟨w, g, c, _, rfl, W2, by omega, by omega, fun kd H3 s3 W3 kd0 kd1 => ?_⟩
      walk_at "go"
      intro D nD
      generalize hU : upd H3 D _ = H4
      obtain ⟨s4, W4, aD⟩ := new_ofC W3 nD hU
      have hD := aD.at_
      walk_at "go"
      refine ⟨rts, rfl, by simp [rts], ?_⟩
      rw [rts_merge]
      have S5 : Go w g H2 (upd H4 D (.dK rts)) := fun x u n1 n2 e => by
        have e3 := s3 x u n1 n2 e
        rw [upd_ne (ne_of_none e3 nD)]
        exact s4 _ _ e3
      have W5 : Dk w g c (upd H4 D (.dK rts)) := W4.upd aD.nw aD.ng aD.nc
      have hD5 : (upd H4 D (.dK rts)) D = some (.dK rts) := upd_same
      generalize upd H4 D (.dK rts) = H5 at S5 W5 hD5
      refine ⟨D, rfl, .inl ⟨_, .inl hD5⟩, ?_⟩
      walk_at "go"
      refine ⟨_, DGet.k (k := Sum.inl (m : Int)) hD5, ?_⟩
      obtain ⟨rt, ert, rt1, rtm⟩ := rts_get m2 m9
      rw [ert]
      walk_at "go"
      intro p np
      generalize hU6 : upd H5 p _ = H6
      obtain ⟨s6, W6, ap⟩ := new_ofC W5 np hU6
      have hp := ap.at_
      have S6 := (S2.trans S5).trans (Go.of s6)
      clear S5 S2 s3 s4 s6 hU hU6 hD hD5 nD np aD ap
      iterate 6 (walk_at "go1")
      refine ⟨by omega, by omega, fun LA nA => ?_⟩
      refine lc_it walk_range (fun i H7 => ∃ ls : List Nat, H7 LA = some (.lst (nV ls)) ∧ Some_ i m ls ∧ Dk w g c H7 ∧ Go w g H6 H7) ⟨[], upd_same, ⟨rfl, fun v h => by cases h⟩, W6.same (same_new nA), Go.of (same_new nA)⟩ (fun _ _ _ _ => trivial) (fun i x H7 H8 hi p y => ?_) (fun H7 p => ?_)
      · obtain ⟨ls, hA, so, W7, S7⟩ := p
        obtain ⟨rfl, rfl⟩ := y
        walk_at "go"
        refine ⟨w, g, c, _, rfl, W7, by omega, by omega, fun e H9 s9 W9 e0 e1 => ?_⟩
        obtain ⟨nw, ng, nc⟩ := W6.fresh nA
        obtain ⟨ev, rfl⟩ : ∃ ev : Nat, e = (ev : Int) := ⟨e.toNat, by omega⟩
        exact ⟨_, s9 _ _ nw ng hA, sz4 so (by omega), ls ++ [ev], by rw [upd_same, nV_snoc], so.snoc (by omega), W9.upd nw ng nc, go_upd' (S7.trans s9) nA⟩
      · obtain ⟨fs, hA, sA, W7, S7⟩ := p
        rw [show ((k : Nat) : Int).toNat = k from rfl] at sA
        obtain ⟨nAw, nAg, nAc⟩ := W6.fresh nA
        iterate 2 (walk_at "go1")
        refine ⟨by omega, by omega, fun LB nB => ?_⟩
        obtain ⟨nBw, nBg, nBc⟩ := W7.fresh nB
        have nAB : LA ≠ LB := ne_of_none hA nB
        have nA0 : H LA = none := go_none S6 nAw nAg nA
        have nB0 : H LB = none := go_none (S6.trans S7) nBw nBg nB
        refine lc_it walk_range (fun i H8 => ∃ ls : List Nat, H8 LB = some (.lst (nV ls)) ∧ Some_ i m ls ∧ Dk w g c H8 ∧ Go w g H7 H8) ⟨[], upd_same, ⟨rfl, fun v h => by cases h⟩, W7.same (same_new nB), Go.of (same_new nB)⟩ (fun _ _ _ _ => trivial) (fun i x H8 H9 hi p y => ?_) (fun H8 p => ?_)
        · obtain ⟨ls, hB, so, W8, S8⟩ := p
          obtain ⟨rfl, rfl⟩ := y
          walk_at "go"
          refine ⟨w, g, c, _, rfl, W8, by omega, by omega, fun e H10 s10 W10 e0 e1 => ?_⟩
          obtain ⟨ev, rfl⟩ : ∃ ev : Nat, e = (ev : Int) := ⟨e.toNat, by omega⟩
          exact ⟨_, s10 _ _ nBw nBg hB, sz4 so (by omega), ls ++ [ev], by rw [upd_same, nV_snoc], so.snoc (by omega), W10.upd nBw nBg nBc, go_upd' (S8.trans s10) nB⟩
        · obtain ⟨bs, hB, sB, W8, S8⟩ := p
          rw [show ((k : Nat) : Int).toNat = k from rfl] at sB
          have hA8 := S8 _ _ nAw nAg hA
          have S := (S6.trans S7).trans S8
          have aA : Ac w g c H8 LA (.lst (nV fs)) := ⟨nAw, nAg, nAc, hA8⟩
          have aB : Ac w g c H8 LB (.lst (nV bs)) := ⟨nBw, nBg, nBc, hB⟩
          clear S6 S7 S8 hA hA8 hB nA nB W6 W7 W2
          obtain ⟨kv, rfl⟩ : ∃ kv : Nat, kd = (kv : Int) := ⟨kd.toNat, by omega⟩
          have N0 : NR w g c M m k kv rt H [some (.ref w), some (.int M), some (.int m), some (.int k), some (.int ((m ^ k : Nat) : Int)), some (.int kv), some (.int rt), some (.ref LA), some (.ref LB), none] H8 :=
            ⟨LA, LB, fs, bs, rfl, W8, S, aA, aB, nAB, sA, sB, nA0, nB0⟩
          walk_at "go"
          refine ⟨NR w g c M m k kv rt H, ?_, fun σ X1 px => ?_⟩
          · walk_at "go"
            refine ifD (fun _ => ?_) (fun _ => N0)
            walk_at "go"
            intro l1 nl1
            generalize hU1 : upd H8 l1 _ = H9
            obtain ⟨s9, W9, al1⟩ := new_ofC W8 nl1 hU1
            refine ⟨w, g, c, l1, _, rfl, W9, al1, by simp, by simp, fun x H10 mx s10 W10 => ?_⟩
            obtain ⟨e, em, rfl⟩ : ∃ e : Nat, e < m ∧ x = .int (e : Nat) := by
              rcases (by simpa using mx : x = V.int 1 ∨ x = V.int ((m : Int) - 1)) with rfl | rfl
              · exact ⟨1, by omega, rfl⟩
              · exact ⟨m - 1, by omega, by congr 1; omega⟩
            have aA' := (aA.same s9).go s10
            have aB' := (aB.same s9).go s10
            walk_at "go"
            refine ⟨LA, _, -1, k - 1, rfl, rfl, aA'.at_, by rw [nV_len, sA.1]; exact ix_last (by omega), ?_⟩
            rw [nV_set]
            refine ⟨LA, LB, _, bs, rfl, W10.upd aA.nw aA.ng aA.nc, ?_, aA'.set, aB'.upd nAB.symm, nAB, sA.set em, sB, nA0, nB0⟩
            exact go_upd' ((S.trans (Go.of s9)).trans s10) nA0
          · clear N0 aA aB nAB sA sB nA0 nB0 S W8 nAw nAg nAc nBw nBg nBc
            obtain ⟨LA, LB, fs, bs, rfl, W8, S, aA, aB, nAB, sA, sB, nA0, nB0⟩ := px
            refine ⟨NR w g c M m k kv rt H, ?_, fun σ X2 px => ?_⟩
            · walk_at "go"
              refine ifD (fun _ => ?_) (fun _ => ⟨LA, LB, fs, bs, rfl, W8, S, aA, aB, nAB, sA, sB, nA0, nB0⟩)
              have dm := Nat.mod_add_div m rt
              have dl := Nat.mod_lt m (show 0 < rt by omega)
              have e1 : (m : Int) / (rt : Int) = ((m / rt : Nat) : Int) := (Int.natCast_ediv ..).symm
              have q1 : 1 ≤ m / rt := Nat.div_pos rtm (by omega)
              iterate 2 (walk_at "go1")
              refine ⟨by omega, by omega, fun LC nC => ?_⟩
              obtain ⟨nCw, nCg, nCc⟩ := W8.fresh nC
              refine lc_it walk_range (fun i H9 => ∃ ls : List Nat, H9 LC = some (.lst (nV ls)) ∧ Some_ i m ls ∧ Dk w g c H9 ∧ Go w g X1 H9) ⟨[], upd_same, ⟨rfl, fun v h => by cases h⟩, W8.same (same_new nC), Go.of (same_new nC)⟩ (fun _ _ _ _ => trivial) (fun i x H9 H10 hi p y => ?_) (fun H9 p => ?_)
              · obtain ⟨ls, hC, so, W9, S9⟩ := p
                obtain ⟨rfl, rfl⟩ := y
                walk_at "go"
                refine ⟨w, g, c, _, rfl, W9, by rw [e1]; omega, by rw [e1]; have := Nat.div_le_self m rt; omega, fun e H11 s11 W11 d0 d1 => ?_⟩
                obtain ⟨ev, rfl⟩ : ∃ ev : Nat, e = (ev : Int) := ⟨e.toNat, by omega⟩
                have ee : rt * ev < m := by
                  rw [e1] at d1
                  have h1 : rt * (ev + 1) ≤ rt * (m / rt) := Nat.mul_le_mul_left _ (by omega)
                  rw [Nat.mul_add, Nat.mul_one] at h1
                  omega
                walk_at "go"
                refine ⟨_, s11 _ _ nCw nCg hC, sz4 so (by omega), ls ++ [rt * ev], ?_, so.snoc ee, W11.upd nCw nCg nCc, go_upd' (S9.trans s11) nC⟩
                rw [upd_same, nV_snoc, Int.natCast_mul]
              · obtain ⟨ls, hC, so, W9, S9⟩ := p
                rw [show ((k : Nat) : Int).toNat = k from rfl] at so
                exact ⟨LC, LB, ls, bs, rfl, W9, S.trans S9, ⟨nCw, nCg, nCc, hC⟩, aB.go S9, (ne_of_none aB.at_ nC).symm, so, sB, go_none S nCw nCg nC, nB0⟩
            · clear aA aB nAB sA sB nA0 nB0 S W8
              obtain ⟨LA, LB, fs, bs, rfl, W8, S, aA, aB, nAB, sA, sB, nA0, nB0⟩ := px
              refine ⟨NR w g c M m k kv rt H, ?_, fun σ X3 px => ?_⟩
              · walk_at "go"
                refine ifD (fun _ => ?_) (fun _ => ⟨LA, LB, fs, bs, rfl, W8, S, aA, aB, nAB, sA, sB, nA0, nB0⟩)
                walk_at "go"
                intro l1 nl1
                generalize hU1 : upd X2 l1 _ = H9
                obtain ⟨s9, W9, al1⟩ := new_ofC W8 nl1 hU1
                walk_at "go"
                refine ⟨l1, k, _, rfl, rfl, al1.at_, by omega, by omega, szl (by simp; omega), fun LC nC => ?_⟩
                generalize hU2 : upd H9 LC _ = H10
                obtain ⟨s10, W10, aC⟩ := new_ofC W9 nC hU2
                have eC : (List.replicate ((k : Nat) : Int).toNat [V.int 0]).flatten = nV (List.replicate k 0) := by
                  rw [show ((k : Nat) : Int).toNat = k from rfl, rep0]
                rw [eC] at aC
                have sC : Some_ k m (List.replicate k 0) := ⟨List.length_replicate, fun v hv => by rw [(List.mem_replicate.mp hv).2]; omega⟩
                walk_at "go"
                refine ⟨w, g, c, _, rfl, W10, by omega, by omega, fun e H11 s11 W11 e0 e1 => ?_⟩
                obtain ⟨ev, rfl⟩ : ∃ ev : Nat, e = (ev : Int) := ⟨e.toNat, by omega⟩
                walk_at "go"
                refine ⟨w, g, c, _, rfl, W11, by omega, by omega, fun f H12 s12 W12 f0 f1 => ?_⟩
                have S12 := ((Go.of (s9.trans s10)).trans s11).trans s12
                have aC12 := (aC.go s11).go s12
                have aB12 := aB.go S12
                have nC0 : H LC = none := go_none (S.trans (Go.of s9)) aC.nw aC.ng nC
                refine ⟨LC, _, f, f.toNat, rfl, rfl, aC12.at_, by rw [nV_len, sC.1]; exact ix_at (by omega) (by omega), ?_⟩
                have nCB : LC ≠ LB := (ne_of_none (aB.same s9).at_ nC).symm
                refine ⟨LC, LB, (List.replicate k 0).set f.toNat (1 + ev), bs, rfl, W12.upd aC.nw aC.ng aC.nc, go_upd' (S.trans S12) nC0, ?_, aB12.upd nCB.symm, nCB, sC.set (by omega), sB, nC0, nB0⟩
                rw [← nV_set]
                exact aC12.set
              · clear aA aB nAB sA sB nA0 nB0 S W8
                obtain ⟨LA, LB, fs, bs, rfl, W8, S, aA, aB, nAB, sA, sB, nA0, nB0⟩ := px
                refine ⟨NR w g c M m k kv rt H, ?_, fun σ X4 px => ?_⟩
                · walk_at "go"
                  refine ifD (fun _ => ?_) (fun _ => ⟨LA, LB, fs, bs, rfl, W8, S, aA, aB, nAB, sA, sB, nA0, nB0⟩)
                  walk_at "go"
                  intro l1 nl1
                  generalize hU1 : upd X3 l1 _ = H9
                  obtain ⟨s9, W9, al1⟩ := new_ofC W8 nl1 hU1
                  walk_at "go"
                  refine ⟨l1, (k : Int) - 1, _, rfl, rfl, al1.at_, by omega, by omega, szl (by simp; omega), fun l2 nl2 => ?_⟩
                  generalize hU2 : upd H9 l2 _ = H10
                  obtain ⟨s10, W10, al2⟩ := new_ofC W9 nl2 hU2
                  rw [show ((k : Int) - 1).toNat = k - 1 by omega, rep0] at al2
                  walk_at "go"
                  intro l3 nl3
                  generalize hU3 : upd H10 l3 _ = H11
                  obtain ⟨s11, W11, al3⟩ := new_ofC W10 nl3 hU3
                  refine ⟨l2, l3, _, _, rfl, rfl, s11 _ _ al2.at_, al3.at_, szl (by rw [nV_len, List.length_replicate]; simp; omega), fun LC nC => ?_⟩
                  generalize hU4 : upd H11 LC _ = H12
                  obtain ⟨s12, W12, aC⟩ := new_ofC W11 nC hU4
                  have eC : nV (List.replicate (k - 1) 0) ++ [V.int 1] = nV (List.replicate (k - 1) 0 ++ [1]) := by rw [nV_snoc]; rfl
                  rw [eC] at aC
                  have sC : Some_ k m (List.replicate (k - 1) 0 ++ [1]) := by
                    have h0 : Some_ (k - 1) m (List.replicate (k - 1) 0) := ⟨List.length_replicate, fun v hv => by rw [(List.mem_replicate.mp hv).2]; omega⟩
                    have := h0.snoc (e := 1) (by omega)
                    rwa [show k - 1 + 1 = k by omega] at this
                  have S12 : Same X3 H12 := ((s9.trans s10).trans s11).trans s12
                  walk_at "go"
                  exact ⟨LA, LC, fs, _, rfl, W12, S.trans (Go.of S12), aA.same S12, aC, ne_of_none (((aA.same s9).same s10).same s11).at_ nC, sA, sC, nA0, go_none (S.trans (Go.of ((s9.trans s10).trans s11))) aC.nw aC.ng nC⟩
                · clear aA aB nAB sA sB nA0 nB0 S W8
                  obtain ⟨LA, LB, fs, bs, rfl, W8, S, aA, aB, nAB, sA, sB, nA0, nB0⟩ := px
                  walk_at "go"
                  refine ⟨LA, _, rfl, .inl ⟨sqL_of aA.at_, fun p1 np1 => ?_⟩⟩
                  generalize hU1 : upd X4 p1 _ = H9
                  obtain ⟨s9, W9, ap1⟩ := new_ofC W8 np1 hU1
                  walk_at "go"
                  refine ⟨LB, _, rfl, .inl ⟨sqL_of (aB.same s9).at_, fun p2 np2 => ?_⟩⟩
                  generalize hU2 : upd H9 p2 _ = H10
                  obtain ⟨s10, W10, ap2⟩ := new_ofC W9 np2 hU2
                  walk_at "go"
                  intro p3 np3
                  generalize hU3 : upd H10 p3 _ = H11
                  obtain ⟨s11, W11, ap3⟩ := new_ofC W10 np3 hU3
                  refine q p3 p1 p2 m fs bs H11 (S.trans (Go.of ((s9.trans s10).trans s11))) W11 ⟨ap3.at_, s11 _ _ (s10 _ _ ap1.at_), s11 _ _ ap2.at_, ⟨m2, m9, by rw [sA.1]; exact k1, by rw [sA.1]; exact k4, by rw [sA.1, sB.1], sA.2, sB.2, by rw [sA.1]; omega⟩⟩ (by rw [sA.1]; exact kM)
end
set_option pp.deepTerms false
set_option pp.deepTerms.threshold 5
section
variable {P : Program} {wd : World} {K : PySem.W.Frag} {mg : Str → Option Value} {base : Heap} (T : Tp K mg)
def spFar : Sp := fun vs H Q _ => ∃ (w g c : Addr) (m : Int), vs = [.ref w, .int m] ∧ Dk w g c H ∧ 0 < m ∧
  ∀ (d : Int) H', Go w g H H' → Dk w g c H' → 0 ≤ d → d < m → Q (.int d) H'
theorem ok_far : FnOk P wd K mg base CX0 2 T.a_far T.d_far ["_law_deck_here", "_law_many"] spFar := by
  have G_draw : FnOk P wd K mg base CX0 1 T.a_draw T.d_draw ["_law_deck_here", "_law_many"] spDraw := ok_draw T
  refine T.F_far.ok sc_far (fun vs H Q E h => ?_) (fun cdv A outer s H vs Q E hr h => ?_)
  · obtain ⟨w, g, c, m, rfl, _⟩ := h
    rfl
  · obtain ⟨w, g, c, m, rfl, W, m0, q⟩ := h
    refine ⟨_, (pss_cons (ps_set (i := 2) sc_far.nd rfl (Or.inl rfl) pe_int)
      (pss_cons (ps_for PassesOwn.never rfl (pi_range1 rfl T.n_range (pa_cons pe_int pa_nil)) (pg_name (i := 3) sc_far.nd rfl (Or.inl rfl)) (pss_one (ps_set (i := 2) sc_far.nd rfl (Or.inl rfl) (pe_op op_add (pe_op op_mul (pv 2) pe_int) (pe_call G_draw hr rfl T.g_draw T.F_draw.kp (b_draw T) .nil pass0 (pa_cons (pv 0) (pa_cons pe_int pa_nil)))))))
      (pss_one (ps_ret (pe_op op_mod (pe_callTy call_int1 rfl T.n_int (by decide +kernel) (pa_cons (pv 2) pa_nil)) (pv 1)))))), ?_⟩
    walk_at "go"
    refine for_range (lo := 0) (n := 8) (fun i σ H2 => ∃ (f : Int) (y3 : Option V), σ = [some (.ref w), some (.int m), some (.int f), y3] ∧ Dk w g c H2 ∧ Go w g H H2) ⟨_, _, rfl, W, Go.refl⟩ (fun i σ H2 hi px => ?_) (fun σ H2 px => ?_)
    · obtain ⟨f, y3, rfl, W2, S⟩ := px
      walk_at "go"
      refine ⟨w, g, c, _, rfl, W2, by omega, by omega, fun d H3 s3 W3 d0 d1 => ?_⟩
      walk_at "go"
      exact S.trans s3
    · obtain ⟨f, y3, rfl, W2, S⟩ := px
      walk_at "go"
      exact q _ H2 S W2 (Int.emod_nonneg f (by omega)) (Int.emod_lt_of_pos f (by omega))
theorem nV_at {l : List Nat} {i k : Nat} (h : l[i]? = some k) : (nV l)[i]? = some (.int (k : Nat)) := by rw [List.getElem?_map, h]; rfl
def spValueAt : Sp := fun vs H Q _ => ∃ (r af ab : Addr) (m : Nat) (fs bs : List Nat) (n : Nat), vs = [.ref r, .int n] ∧ RuleAt H r af ab m fs bs ∧
  ∀ H', Same H H' → Q (.int ((xv m fs bs n : Nat) : Int)) H'
theorem _root_.Sq.IsRound.far {m : Nat} {fs bs : List Nat} {h t : Nat} (a : IsRound m fs bs h t) {n : Nat} (hn : h ≤ n) : xv m fs bs (h + (n - h) % t) = xv m fs bs n := by
  rw [← a.mod, show h + (n - h) = n by omega]
theorem ok_value_at : FnOk P wd K mg base CX0 3 T.a_value_at T.d_value_at ["rule", "number"] spValueAt := by
  have G_round_of : FnOk P wd K mg base CX0 2 T.a_round_of T.d_round_of ["rule"] spRound := ok_round_of T
  have G_values : FnOk P wd K mg base CX0 2 T.a_values T.d_values ["rule", "many"] spValues := ok_values T
  refine T.F_value_at.ok sc_value_at (fun vs H Q E h => ?_) (fun cdv A outer s H vs Q E hr h => ?_)
  · obtain ⟨r, af, ab, m, fs, bs, n, rfl, _⟩ := h
    rfl
  · obtain ⟨r, af, ab, m, fs, bs, n, rfl, R, q⟩ := h
    refine ⟨_, (pss_cons (ps_asg (pe_call G_round_of hr rfl T.g_round_of T.F_round_of.kp (b_round_of T) .nil pass0 (pa_cons (pv 0) pa_nil)) (pg_tup rfl (pgs_cons (pg_name (i := 2) sc_value_at.nd rfl (Or.inl rfl)) (pgs_cons (pg_name (i := 3) sc_value_at.nd rfl (Or.inl rfl)) pgs_nil))))
      (pss_cons (ps_if (pt_cmpR op_ge (pv 1) (pv 2) (nomark _)) (pss_one (ps_set (i := 1) sc_value_at.nd rfl (Or.inl rfl) (pe_op op_add (pv 2) (pe_op op_mod (pe_op op_sub (pv 1) (pv 2)) (pv 3))))) pss_nil)
      (pss_one (ps_ret (pe_ix ix_tup (pe_call G_values hr rfl T.g_values T.F_values.kp (b_values T) .nil pass0 (pa_cons (pv 0) (pa_cons (pe_op op_add (pv 1) pe_int) pa_nil))) (pv 1) (fun _ _ => rfl)))))), ?_⟩
    walk_at "go"
    refine ⟨r, af, ab, m, fs, bs, rfl, R, fun p H1 h t s1 rd hp => ?_⟩
    have rl := R.rl
    have big := rl.big
    have le := rd.le rl
    have t1 := rd.t1
    walk_at "go"
    refine ifD (fun ge => ?_) (fun lt => ?_)
    · have ge2 : h ≤ n := by omega
      have em : (h : Int) + ((n : Int) - (h : Int)) % (t : Int) = ((h + (n - h) % t : Nat) : Int) := by
        rw [show (n : Int) - (h : Int) = ((n - h : Nat) : Int) by omega, ← Int.natCast_emod]
        omega
      have lm := Nat.mod_lt (n - h) (show 0 < t from t1)
      iterate 6 (walk_at "go1")
      refine ⟨by show 0 < (t : Int); omega, ?_⟩
      refine ⟨_, _, rfl, rfl, ?_⟩
      show gName 1 (V.int (_ + (_ - _) % _)) _ _ _
      rw [em]
      walk_at "go"
      refine ⟨r, af, ab, m, fs, bs, h + (n - h) % t + 1, rfl, R.same s1, by omega, fun p2 H2 s2 hp2 => ?_⟩
      walk_at "go"
      refine go_ixT hp2 (j := h + (n - h) % t) (nV_at (rw_get (by omega))) ?_
      rw [rd.far ge2]
      exact q _ (s1.trans s2)
    · walk_at "go"
      refine ⟨r, af, ab, m, fs, bs, n + 1, rfl, R.same s1, by omega, fun p2 H2 s2 hp2 => ?_⟩
      walk_at "go"
      refine go_ixT hp2 (j := n) (nV_at (rw_get (by omega))) ?_
      exact q _ (s1.trans s2)
end
set_option pp.deepTerms false
set_option pp.deepTerms.threshold 5
section
variable {P : Program} {wd : World} {K : PySem.W.Frag} {mg : Str → Option Value} {base : Heap} (T : Tp K mg)
def spGoing : Sp := fun vs H Q _ => ∃ (r af ab : Addr) (m : Nat) (fs bs : List Nat) (M : Nat), vs = [.ref r, .int M] ∧ RuleAt H r af ab m fs bs ∧ M ≤ 5000 ∧ m ^ fs.length ≤ M ∧
  ∀ p L H' (h t : Nat), Same H H' → IsRound m fs bs h t → H' p = some (.tup [.ref L, .int h]) → H L = none → H' L = some (.lst (nV (rw_ m fs bs (h + t)))) → Q (.ref p) H'
theorem cutV_from {xs : List V} {n : Nat} (h : n ≤ xs.length) : cutV xs (some (n : Int)) none = xs.drop n := by
  unfold cutV
  rw [sIx_of _ _ (by omega)]
  show (xs.drop (min (n : Int).toNat xs.length)).take (xs.length - min (n : Int).toNat xs.length) = _
  rw [show min (n : Int).toNat xs.length = n by show min n xs.length = n; omega, List.take_of_length_le (by rw [List.length_drop]; omega)]
theorem ok_going : FnOk P wd K mg base CX0 1 T.a_going T.d_going ["_law_rule_here", "_law_most"] spGoing := by
  refine T.F_going.ok sc_going (fun vs H Q E h => ?_) (fun cdv A outer s H vs Q E hr h => ?_)
  · obtain ⟨r, af, ab, m, fs, bs, M, rfl, _⟩ := h
    rfl
  · obtain ⟨r, af, ab, m, fs, bs, M, rfl, R, M5, big, q⟩ := h
    refine ⟨_, (pss_cons (ps_asg (pv 0) (pg_tup rfl (pgs_cons (pg_name (i := 2) sc_going.nd rfl (Or.inl rfl)) (pgs_cons (pg_name (i := 3) sc_going.nd rfl (Or.inl rfl)) (pgs_cons (pg_name (i := 4) sc_going.nd rfl (Or.inl rfl)) pgs_nil)))))
      (pss_cons (ps_par3 (i := 5) (j := 6) (l := 7) rfl sc_going.nd rfl rfl rfl (by decide) (by decide) (by decide) rfl rfl rfl (pa_cons (pe_callB call_len_seq rfl T.n_len PySem.boot_len (pa_cons (pv 3) pa_nil)) (pa_cons (pe_callTy call_list_of rfl T.n_list (by decide +kernel) (pa_cons (pv 4) pa_nil)) (pa_cons pe_dnewT pa_nil))) rfl)
      (pss_cons (ps_for PassesOwn.never rfl (pi_range1 rfl T.n_range (pa_cons (pe_op op_add (pv 1) pe_int) pa_nil)) (pg_name (i := 8) sc_going.nd rfl (Or.inl rfl)) (pss_cons (ps_set (i := 9) sc_going.nd rfl (Or.inl rfl) (pe_callTy call_tuple_of rfl T.n_tuple (by decide +kernel) (pa_cons (pe_slice sl_list (pv 6) (po_some (pv 8)) po_none) pa_nil)))
      (pss_cons (ps_if (pt_cmp (pc_din (hu_of hr) (pv 9) (pv 7))) (pss_one (ps_ret (pe_tup (pa_cons (pe_slice sl_list (pv 6) po_none (po_some (pv 8))) (pa_cons (pe_dget (hu_of hr) (pv 7) (pv 9) (fun _ _ => rfl)) pa_nil))))) pss_nil)
      (pss_cons (ps_dput (hu_of hr) (pv 7) (pv 9) (pv 8) rfl)
      (pss_one (ps_expr (pe_bm PySem.F.plainAttrs_list PySem.F.slot_list_append PySem.F.type_list_append mt_append (pv 6) (pa_cons (pe_op op_mod (pe_callTy call_int1 rfl T.n_int (by decide +kernel) (pa_cons (pe_callB (cr_sum rfl) rfl T.n_sum (by decide +kernel) (pa_cons (pe_lc (own := [("_law_one", 10), ("_law_other", 11)]) (g := gTup K 2 (gCons (gName 10) (gCons (gName 11) gNil))) rfl sc_going.nd (RZ.pi_zipA rfl T.n_zip (pa_cons (pv 3) (pa_cons (pe_revT (pv 9)) pa_nil))) (blkOk_by (N := nm_going) (sc := defScope s_going) (by decide +kernel)) (fun _ _ _ _ _ => pg_tup rfl (pgs_cons (pg_name (i := 10) sc_going.nd rfl (Or.inl rfl) (Or.inr rfl)) (pgs_cons (pg_name (i := 11) sc_going.nd rfl (Or.inl rfl) (Or.inr rfl)) pgs_nil))) (fun _ _ _ _ _ => pts_nil) (fun _ _ _ _ _ => (pe_op op_mul (pv 10) (pv 11)))) pa_nil)) pa_nil)) (pv 2)) pa_nil))))))))
      (pss_one (ps_ret (pe_tup (pa_cons (pe_slice sl_list (pv 6) po_none (po_some (pv 5))) (pa_cons pe_int pa_nil)))))))), ?_⟩
    have h1 := R.at_
    have hf := R.fat
    have rl := R.rl
    have f1 := rl.f1
    have f4 := rl.f4
    have m2 := rl.m2
    have m9 := rl.m9
    walk_at "go"
    refine ⟨ab, _, rfl, .inr (sqT_of R.bat), fun L nL => ?_⟩
    generalize hU : upd H L _ = H1
    obtain ⟨s1, hL⟩ := new_of0 nL hU
    walk_at "go"
    intro D nD
    generalize hU1 : upd H1 D _ = H2
    obtain ⟨s2, hD⟩ := new_of0 nD hU1
    have nD0 := same_none s1 nD
    have hL2 := s2 _ _ hL
    have S2 := s1.trans s2
    iterate 3 (walk_at "go1")
    iterate 1 (walk_at "go1")
    refine ⟨by show -2 ^ 62 ≤ (M : Int) + 1; omega, by show (M : Int) + 1 < 2 ^ 62; omega, ?_⟩
    refine for_range (lo := 0) (n := ((M : Int) + 1).toNat) (fun i σ H2 => ∃ (kvs : List (List Key × V)) (y8 y9 : Option V), σ = [some (.ref r), some (.int M), some (.int m), some (.ref af), some (.ref ab), some (.int fs.length), some (.ref L), some (.ref D), y8, y9, none, none] ∧ H2 L = some (.lst (nV (rw_ m fs bs (fs.length + i)))) ∧ H2 D = some (.dT kvs) ∧ Seen m fs bs i kvs ∧ Same H H2)
      ⟨[], none, none, by rw [nV_len]; rfl, by rw [hL2, Nat.add_zero, rw_begin rl], hD, ⟨rfl, fun j hj => by omega, fun l _ => rfl, fun i j _ hj => by omega⟩, S2⟩ (fun i σ H3 hi px => ?_) (fun σ H3 px => ?_)
    · obtain ⟨kvs, y8, y9, rfl, hL3, hD3, X, S3⟩ := px
      rw [Int.zero_add]
      walk_at "go"
      intro B nB
      generalize hU : upd H3 B _ = H4
      obtain ⟨s4, hB⟩ := new_of0 nB hU
      rw [cutV_from (by rw [nV_len, rw_len]; omega), nV_drop, Nat.add_comm, st_row rl] at hB
      refine ⟨B, _, rfl, .inl ⟨sqL_of hB, fun N nN => ?_⟩⟩
      generalize hU2 : upd H4 N _ = H5
      obtain ⟨s5, hN⟩ := new_of0 nN hU2
      have hL5 := s5 _ _ (s4 _ _ hL3)
      have hD5 := s5 _ _ (s4 _ _ hD3)
      have S5 := (S3.trans s4).trans s5
      have hk : H5 N = some (.tup ((keyL (st m fs bs i)).map kV)) := by rw [keyL_kV]; exact hN
      walk_at "go"
      refine ⟨D, _, rfl, DGet.t (k := keyL (st m fs bs i)) hD5 hk, ?_⟩
      by_cases c : ∀ j, j < i → st m fs bs j ≠ st m fs bs i
      · rw [X.no _ c]
        refine ⟨false, rfl, ifF ?_⟩
        have XP := X.put c
        walk_at "go"
        refine ⟨D, _, rfl, DPut.t (k := keyL (st m fs bs i)) hD5 hk (Nat.lt_of_le_of_lt (by rw [X.len]; omega : _ ≤ 5000) (by decide)), ?_⟩
        generalize hU3 : upd H5 D _ = H6
        have hD6 : H6 D = some (.dT (putK kvs (keyL (st m fs bs i)) (.int (i : Nat)))) := by rw [← hU3]; exact upd_same
        have hL6 : H6 L = some (.lst (nV (rw_ m fs bs (fs.length + i)))) := by rw [← hU3]; exact (upd_ne (ne_of hL5 hD5 (by intro z; cases z))).trans hL5
        have hN6 : H6 N = some (.tup (nV (st m fs bs i))) := by rw [← hU3]; exact (upd_ne (ne_of hN hD5 (by intro z; cases z))).trans hN
        have S6 : Same H H6 := by rw [← hU3]; exact same_mut S5 nD0
        have hf6 := S6 _ _ hf
        walk_at "go"
        refine ⟨Or.inl ⟨rfl, _, sqL_of hL6⟩, ?_⟩
        walk_at "go"
        intro B2 nB2
        generalize hU4 : upd H6 B2 _ = H7
        obtain ⟨s7, hB2⟩ := new_of0 nB2 hU4
        rw [nV_rev] at hB2
        have lst := st_len rl i
        have h10 := (rl10 rl).2 i
        have hx : xv m fs bs (fs.length + i) = nxt m fs (st m fs bs i) := by rw [Nat.add_comm, x_next rl]
        generalize st m fs bs i = as at hB2 lst h10 hx
        have hf7 := s7 _ _ hf6
        refine ⟨af, B2, nV fs, nV as.reverse, rfl, .inr ⟨sqT_of hf7, sqT_of hB2, fun C nC => ?_⟩⟩
        refine lc_it (walk_zipT rfl) (fun i H2 => H2 C = some (.lst (nV ((List.zipWith (· * ·) fs as.reverse).take i))) ∧ Same H7 H2) ⟨upd_same, same_new nC⟩
          (fun i H2 _ p => ⟨sqT_of (p.2 _ _ hf7), sqT_of (p.2 _ _ hB2)⟩) (fun i x H8 H9 hi p y => ?_) (fun H8 p => ?_)
        · obtain ⟨hC, S⟩ := p
          obtain ⟨T', x, y, rfl, hT, rfl, hx, hy⟩ := y
          obtain ⟨f, ef, rfl⟩ := nV_get hx
          obtain ⟨a, ea, rfl⟩ := nV_get hy
          have f10 := (rl10 rl).1 f (List.mem_of_getElem? ef)
          have a10 : a < 10 := h10 a (List.mem_reverse.mp (List.mem_of_getElem? ea))
          generalize hU3 : upd H8 T' _ = H10
          obtain ⟨s10, hT10⟩ := new_of0 hT hU3
          have hC10 := s10 _ _ hC
          have S10 := S.trans s10
          walk_at "go"
          have i4 : i < 4 := by rw [nV_len] at hi; omega
          refine ⟨_, hC10, small1000 (by rw [nV_len, List.length_take]; omega), ?_, same_mut S10 nC⟩
          rw [upd_same, zw_succ ef ea, nV_snoc, Int.natCast_mul]
        · obtain ⟨hC, S⟩ := p
          rw [List.take_of_length_le (by rw [List.length_zipWith, nV_len, nV_len]; exact Nat.le_refl _)] at hC
          refine ⟨C, (List.zipWith (· * ·) fs as.reverse).map fun k => ((k : Nat) : Int), rfl, sqL_of (by rw [hC, nV_ints]), ?_⟩
          rw [sum_nat]
          walk_at "go"
          have hL8 := S _ _ (s7 _ _ hL6)
          have hD8 := S _ _ (s7 _ _ hD6)
          refine ⟨L, _, _, rfl, rfl, hL8, Nat.lt_of_le_of_lt (by rw [nV_len, rw_len]; omega : _ ≤ 40000) (by decide), ?_⟩
          refine ⟨_, _, _, rfl, ?_, (upd_ne (ne_of hD8 hL8 (by intro z; cases z))).trans hD8, XP, same_mut ((S6.trans s7).trans S) nL⟩
          rw [upd_same, ← Nat.add_assoc, rw_succ, nV_snoc, hx]
          unfold nxt
          rw [Int.natCast_emod]
      · obtain ⟨h, hn, eh⟩ : ∃ h, h < i ∧ st m fs bs h = st m fs bs i := Classical.byContradiction fun z => c fun j hj e => z ⟨j, hj, e⟩
        have e1 : valV kvs (keyL (st m fs bs i)) = some (.int (h : Nat)) := by rw [← eh, X.at_ h hn]
        rw [e1]
        refine ⟨true, rfl, ifT ?_⟩
        walk_at "go"
        intro B2 nB2
        generalize hU3 : upd H5 B2 _ = H6
        obtain ⟨s6, hB2⟩ := new_of0 nB2 hU3
        rw [cutV_to, nV_take, rw_take, Nat.min_eq_left (by omega)] at hB2
        walk_at "go"
        refine ⟨D, _, rfl, e1 ▸ DGet.t (k := keyL (st m fs bs i)) (s6 _ _ hD5) (s6 _ _ hk), ?_⟩
        walk_at "go"
        intro p np
        generalize hU4 : upd H6 p _ = H7
        obtain ⟨s7, hp⟩ := new_of0 np hU4
        have ei : h + (i - h) = i := by omega
        refine q p B2 H7 h (i - h) ((S5.trans s6).trans s7) ⟨by omega, by rw [ei]; exact eh.symm, fun a b hab hb => X.ne a b hab (by omega)⟩ hp (same_none S5 nB2) (by rw [ei]; exact s7 _ _ hB2)
    · obtain ⟨kvs, y8, y9, rfl, hL3, hD3, X, S3⟩ := px
      exfalso
      have := ne_bound rl X.ne
      omega
end
set_option pp.deepTerms false
set_option pp.deepTerms.threshold 5
section
variable {P : Program} {wd : World} {K : PySem.W.Frag} {mg : Str → Option Value} {base : Heap} (T : Tp K mg)
theorem walk_enT {K : PySem.W.Frag} {a : Addr} {xs : List V} : Walk (Iten K a) xs.length (fun H => SqT K H a xs) (YPair (fun i => some (.int (i : Nat))) (fun i => xs[i]?)) :=
  ⟨fun i H hi q => ⟨xs, xs[i], q, by simp [hi]⟩, fun H q => ⟨xs, q, rfl⟩, fun i H v H' hi q y => by
    obtain ⟨T, x, rfl, hT, rfl, h⟩ := y
    exact ⟨T, _, x, rfl, hT, rfl, rfl, h xs q⟩⟩
theorem rg_down {k : Nat} (k1 : 1 ≤ k) (k4 : k ≤ 4) : RgC (2 * (k : Int) - 1) ((k : Int) - 1) (-1) k := by
  have : k = 1 ∨ k = 2 ∨ k = 3 ∨ k = 4 := by omega
  rcases this with rfl | rfl | rfl | rfl <;> exact ⟨by decide, by decide, by decide, by decide⟩
def spFarValue : Sp := fun vs H Q _ => ∃ (r af ab : Addr) (m : Nat) (fs bs : List Nat) (n : Nat), vs = [.ref r, .int n] ∧ RuleAt H r af ab m fs bs ∧ n < 2 ^ 100 ∧
  ∀ H', Same H H' → Q (.int ((xv m fs bs n : Nat) : Int)) H'
theorem ok_far_value : FnOk P wd K mg base CX0 1 T.a_far_value T.d_far_value ["_law_rule_here", "_law_number"] spFarValue := by
  refine T.F_far_value.ok sc_far_value (fun vs H Q E h => ?_) (fun cdv A outer s H vs Q E hr h => ?_)
  · obtain ⟨r, af, ab, m, fs, bs, n, rfl, _⟩ := h
    rfl
  · obtain ⟨r, af, ab, m, fs, bs, n, rfl, R, nb, q⟩ := h
    refine ⟨_, (pss_cons (ps_asg (pv 0) (pg_tup rfl (pgs_cons (pg_name (i := 2) sc_far_value.nd rfl (Or.inr rfl)) (pgs_cons (pg_name (i := 3) sc_far_value.nd rfl (Or.inl rfl)) (pgs_cons (pg_name (i := 4) sc_far_value.nd rfl (Or.inl rfl)) pgs_nil)))))
      (pss_cons (ps_par (i := 5) (j := 6) rfl sc_far_value.nd rfl rfl (by decide) rfl rfl (pa_cons (pe_callB call_len_seq rfl T.n_len PySem.boot_len (pa_cons (pv 3) pa_nil)) (pa_cons (pe_lst pa_nil) pa_nil)) rfl)
      (pss_cons (ps_while PassesOwn.never (pt_cmpR op_gt (pv 1) pe_int (nomark _)) (pss_cons (ps_expr (pe_bm PySem.F.plainAttrs_list PySem.F.slot_list_append PySem.F.type_list_append mt_append (pv 6) (pa_cons (pe_op op_mod (pe_callTy call_int1 rfl T.n_int (by decide +kernel) (pa_cons (pv 1) pa_nil)) pe_int) pa_nil)))
      (pss_one (ps_set (i := 1) sc_far_value.nd rfl (Or.inl rfl) (pe_op op_fdiv (pv 1) pe_int)))))
      (pss_cons (ps_set (i := 7) sc_far_value.nd rfl (Or.inl rfl) (pe_op op_cat (pe_lst (pa_cons pe_int pa_nil)) (pe_op op_rep (pe_lst (pa_cons pe_int pa_nil)) (pe_op op_sub (pv 5) pe_int))))
      (pss_cons (ps_for PassesOwn.never rfl (pi_list (pe_revL (pv 6))) (pg_name (i := 8) sc_far_value.nd rfl (Or.inl rfl)) (pss_cons (ps_set (i := 9) sc_far_value.nd rfl (Or.inl rfl) (pe_op op_rep (pe_lst (pa_cons pe_int pa_nil)) (pe_op op_mul pe_int (pv 5))))
      (pss_cons (ps_for PassesOwn.never rfl (pi_enum rfl T.n_enumerate (pa_cons (pv 7) pa_nil)) (pg_tup rfl (pgs_cons (pg_name (i := 10) sc_far_value.nd rfl (Or.inl rfl)) (pgs_cons (pg_name (i := 11) sc_far_value.nd rfl (Or.inl rfl)) pgs_nil))) (pss_one (ps_for PassesOwn.never rfl (pi_enum rfl T.n_enumerate (pa_cons (pv 7) pa_nil)) (pg_tup rfl (pgs_cons (pg_name (i := 12) sc_far_value.nd rfl (Or.inl rfl)) (pgs_cons (pg_name (i := 13) sc_far_value.nd rfl (Or.inl rfl)) pgs_nil))) (pss_one (ps_augS (pv 9) (pe_op op_add (pe_op op_add (pv 10) (pv 12)) (pv 8)) get_list (pe_op op_mul (pv 11) (pv 13)) ip_add set_list)))))
      (pss_cons (ps_for PassesOwn.never rfl (pi_range3 rfl T.n_range (pa_cons (pe_op op_sub (pe_op op_mul pe_int (pv 5)) pe_int) (pa_cons (pe_op op_sub (pv 5) pe_int) (pa_cons (pe_un un_neg pe_int) pa_nil)))) (pg_name (i := 10) sc_far_value.nd rfl (Or.inl rfl)) (pss_one (ps_for PassesOwn.never rfl (pi_enumT rfl T.n_enumerate (pa_cons (pv 3) pa_nil)) (pg_tup rfl (pgs_cons (pg_name (i := 12) sc_far_value.nd rfl (Or.inl rfl)) (pgs_cons (pg_name (i := 14) sc_far_value.nd rfl (Or.inl rfl)) pgs_nil))) (pss_one (ps_augS (pv 9) (pe_op op_sub (pe_op op_sub (pv 10) pe_int) (pv 12)) get_list (pe_op op_mul (pv 14) (pe_ix ix_list (pv 9) (pv 10) (fun _ _ => rfl))) ip_add set_list)))))
      (pss_one (ps_setLc (i := 7) (own := [("_law_one", 11)]) rfl sc_far_value.nd rfl rfl (sw_true rfl rfl rfl (by decide +kernel)) (pi_list (pe_slice sl_list (pv 9) po_none (po_some (pv 5)))) (blkOk_by (N := nm_far_value) (sc := defScope s_far_value) (by decide +kernel)) (fun _ _ _ _ _ => pg_name (i := 11) sc_far_value.nd rfl (Or.inl rfl)) (fun _ _ _ _ _ => pts_nil) (fun _ _ _ _ _ => (pe_op op_mod (pe_callTy call_int1 rfl T.n_int (by decide +kernel) (pa_cons (pv 11) pa_nil)) (pv 2)))))))))
      (pss_one (ps_ret (pe_op op_mod (pe_callTy call_int1 rfl T.n_int (by decide +kernel) (pa_cons (pe_callB (cr_sum rfl) rfl T.n_sum (by decide +kernel) (pa_cons (pe_lc (own := [("_law_one", 11), ("_law_other", 13)]) (g := gTup K 2 (gCons (gName 11) (gCons (gName 13) gNil))) rfl sc_far_value.nd (pi_zipN rfl T.n_zip (pa_cons (pv 7) (pa_cons (pv 4) pa_nil))) (blkOk_by (N := nm_far_value) (sc := defScope s_far_value) (by decide +kernel)) (fun _ _ _ _ _ => pg_tup rfl (pgs_cons (pg_name (i := 11) sc_far_value.nd rfl (Or.inl rfl) (Or.inr rfl)) (pgs_cons (pg_name (i := 13) sc_far_value.nd rfl (Or.inl rfl) (Or.inr rfl)) pgs_nil))) (fun _ _ _ _ _ => pts_nil) (fun _ _ _ _ _ => (pe_op op_mul (pv 11) (pv 13)))) pa_nil)) pa_nil)) (pv 2))))))))), ?_⟩
    have h1 := R.at_
    have hf := R.fat
    have rl := R.rl
    have f1 := rl.f1
    have f4 := rl.f4
    have m2 := rl.m2
    have m9 := rl.m9
    walk_at "go"
    intro LT nLT
    generalize hU : upd H LT _ = H1
    obtain ⟨s1, hLT⟩ := new_of0 nLT hU
    walk_at "go"
    refine ⟨fun μ σ H2 => ∃ (ts : List Nat) (z : Nat), σ = [some (.ref r), some (.int z), some (.int m), some (.ref af), some (.ref ab), some (.int fs.length), some (.ref LT), none, none, none, none, none, none, none, none] ∧ H2 LT = some (.lst (nV ts)) ∧ Same H H2 ∧ val ts + 2 ^ ts.length * z = n ∧ (∀ b, b ∈ ts → b < 2) ∧ μ = z,
      ⟨n, [], n, by rw [nV_len]; rfl, hLT, s1, by simp [val], (fun b hb => by cases hb), rfl⟩, fun μ σ H2 px => ?_⟩
    obtain ⟨ts, z, rfl, hT, S2, ev, tb, rfl⟩ := px
    walk_at "go"
    refine ifD (fun z0 => ?_) (fun z0 => ?_)
    · have e2 : 2 ^ ts.length * 1 ≤ 2 ^ ts.length * μ := Nat.mul_le_mul_left _ (by omega)
      have lts : ts.length < 100 := (Nat.pow_lt_pow_iff_right (a := 2) (by decide)).mp (by omega)
      have em : (μ : Int) % 2 = ((μ % 2 : Nat) : Int) := by omega
      have ed : (μ : Int) / 2 = ((μ / 2 : Nat) : Int) := by omega
      have lm := Nat.mod_lt μ (show 0 < 2 by decide)
      refine ⟨fun σ' H' => σ' = [some (.ref r), some (.int ((μ / 2 : Nat) : Int)), some (.int m), some (.ref af), some (.ref ab), some (.int fs.length), some (.ref LT), none, none, none, none, none, none, none, none] ∧ H' LT = some (.lst (nV (ts ++ [μ % 2]))) ∧ Same H H', fun σ' H' p => ?_, ?_⟩
      · obtain ⟨rfl, hT', S'⟩ := p
        refine ⟨μ / 2, by omega, ts ++ [μ % 2], μ / 2, rfl, hT', S', ?_, fun b hb => ?_, rfl⟩
        · rw [val_snoc, List.length_append, List.length_singleton, Nat.pow_succ, Nat.add_assoc, Nat.mul_assoc, ← Nat.mul_add, Nat.mod_add_div]
          exact ev
        · rcases List.mem_append.mp hb with z | z
          · exact tb b z
          · rw [List.mem_singleton.mp z]
            exact lm
      · walk_at "go"
        refine ⟨Or.inl ⟨rfl, _, sqL_of hT⟩, ?_⟩
        walk_at "go"
        refine ⟨LT, _, _, rfl, rfl, hT, Nat.lt_of_le_of_lt (by rw [nV_len]; omega : _ ≤ 100) (by decide), ?_⟩
        walk_at "go"
        refine ⟨?_, same_mut S2 nLT⟩
        rw [upd_same, nV_snoc, ← em]
    · have zz : μ = 0 := by omega
      subst zz
      rw [Nat.mul_zero, Nat.add_zero] at ev
      walk_at "go"
      intro l1 nl1
      generalize hU1 : upd H2 l1 _ = H3
      obtain ⟨s3, hl1⟩ := new_of0 nl1 hU1
      walk_at "go"
      intro l2 nl2
      generalize hU2 : upd H3 l2 _ = H4
      obtain ⟨s4, hl2⟩ := new_of0 nl2 hU2
      walk_at "go"
      refine ⟨l2, (fs.length : Int) - 1, _, rfl, rfl, hl2, by omega, by omega, szl (by simp; omega), fun l3 nl3 => ?_⟩
      generalize hU3 : upd H4 l3 _ = H5
      obtain ⟨s5, hl3⟩ := new_of0 nl3 hU3
      rw [show ((fs.length : Int) - 1).toNat = fs.length - 1 by omega, rep0] at hl3
      refine ⟨l1, l3, _, _, rfl, rfl, s5 _ _ (s4 _ _ hl1), hl3, szl (by rw [nV_len, List.length_replicate]; simp; omega), fun LP nP => ?_⟩
      generalize hU4 : upd H5 LP _ = H6
      obtain ⟨s6, hP⟩ := new_of0 nP hU4
      have S6 := (((S2.trans s3).trans s4).trans s5).trans s6
      have hT6 := s6 _ _ (s5 _ _ (s4 _ _ (s3 _ _ hT)))
      have hP' : H6 LP = some (.lst (nV (1 :: List.replicate (fs.length - 1) 0))) := hP
      walk_at "go"
      intro RT nR
      generalize hU5 : upd H6 RT _ = H7
      obtain ⟨s7, hR⟩ := new_of0 nR hU5
      rw [nV_rev] at hR
      have S7 := S6.trans s7
      have hP7 := s7 _ _ hP'
      have hf7 := S7 _ _ hf
      have tl : ∀ i b, ts.reverse[i]? = some b → i < ts.length ∧ b < 2 ∧ val (ts.drop (ts.length - (i + 1))) = 2 * val (ts.drop (ts.length - i)) + b := fun i b h => by
        have hi : i < ts.length := by
          have := (List.getElem?_eq_some_iff.mp h).1
          rwa [List.length_reverse] at this
        rw [List.getElem?_reverse hi] at h
        refine ⟨hi, tb b (List.mem_of_getElem? h), ?_⟩
        have := val_drop (l := ts) (i := ts.length - 1 - i) h
        rw [show ts.length - (i + 1) = ts.length - 1 - i by omega, this, show ts.length - 1 - i + 1 = ts.length - i by omega]
        omega
      walk_at "go"
      refine ⟨⟨_, sqL_of hR⟩, ?_⟩
      refine for_it (walk_list (xs := nV ts.reverse)) (fun i σ H8 => ∃ (LP : Addr) (p : List Nat) (y8 y9 y10 y11 y12 y13 y14 : Option V), σ = [some (.ref r), some (.int 0), some (.int m), some (.ref af), some (.ref ab), some (.int fs.length), some (.ref LT), some (.ref LP), y8, y9, y10, y11, y12, y13, y14] ∧
          H8 LP = some (.lst (nV p)) ∧ p.length = fs.length ∧ (∀ a, a ∈ p → a < 10) ∧ Tells m fs bs p (val (ts.drop (ts.length - i))) ∧ Same H7 H8)
        ⟨LP, 1 :: List.replicate (fs.length - 1) 0, none, none, none, none, none, none, none, rfl, hP7, by simp; omega, fun a ha => ?_, ?_, Same.rfl'⟩ (fun i σ H8 _ px => ?_) (fun i x σ H8 H9 hi px y => ?_) (fun σ H8 px => ?_)
      · rcases List.mem_cons.mp ha with rfl | z
        · decide
        · rw [(List.mem_replicate.mp z).2]
          decide
      · rw [Nat.sub_zero, List.drop_length]
        exact tells_one _
      · obtain ⟨LP, p, y8, y9, y10, y11, y12, y13, y14, rfl, hP8, lp, p10, tp, S8⟩ := px
        exact sqL_of (S8 _ _ hR)
      · obtain ⟨LP, p, y8, y9, y10, y11, y12, y13, y14, rfl, hP8, lp, p10, tp, S8⟩ := px
        obtain ⟨rfl, hx⟩ := y
        obtain ⟨two, etwo, rfl⟩ := nV_get hx
        obtain ⟨hil, t2, evl⟩ := tl i two etwo
        rw [evl]
        generalize val (ts.drop (ts.length - i)) = e at tp
        walk_at "go"
        intro l4 nl4
        generalize hU6 : upd H9 l4 _ = G1
        obtain ⟨s9, hl4⟩ := new_of0 nl4 hU6
        walk_at "go"
        refine ⟨l4, 2 * (fs.length : Int), _, rfl, rfl, hl4, by omega, by omega, szl (by simp; omega), fun LW nW => ?_⟩
        generalize hU7 : upd G1 LW _ = G2
        obtain ⟨s10, hW⟩ := new_of0 nW hU7
        rw [show (2 * (fs.length : Int)).toNat = 2 * fs.length by omega, rep0] at hW
        have S10 : Same H7 G2 := (S8.trans s9).trans s10
        have nW7 : H7 LW = none := same_none (S8.trans s9) nW
        have hP9 := s9 _ _ hP8
        have hf9 := (S8.trans s9) _ _ hf7
        walk_at "go"
        have pg : ∀ j v, (nV p)[j]? = some v → ∃ a, p[j]? = some a ∧ v = .int (a : Nat) ∧ a < 10 ∧ p.getD j 0 = a := fun j v h => by
          obtain ⟨a, ea, rfl⟩ := nV_get h
          exact ⟨a, ea, rfl, p10 a (List.mem_of_getElem? ea), by rw [List.getD_eq_getElem?_getD, ea]; rfl⟩
        refine ⟨LP, nV p, rfl, sqL_of (s10 _ _ hP9), ?_⟩
        refine for_it (walk_enum (xs := nV p)) (fun j σ G3 => ∃ (wd : List Nat) (y10 y11 y12 y13 : Option V), σ = [some (.ref r), some (.int 0), some (.int m), some (.ref af), some (.ref ab), some (.int fs.length), some (.ref LT), some (.ref LP), some (.int two), some (.ref LW), y10, y11, y12, y13, y14] ∧
            G3 LW = some (.lst (nV wd)) ∧ wd.length = 2 * fs.length ∧ (∀ s, wsum m fs bs wd s = sqs m fs bs p two j s) ∧ Same G1 G3)
          ⟨List.replicate (2 * fs.length) 0, _, _, _, _, rfl, hW, List.length_replicate, fun s => wsum_zeros _ _, s10⟩ (fun j σ G3 _ px => ?_) (fun j x σ G3 G4 hj px y => ?_) (fun σ G3 px => ?_)
        · obtain ⟨wd, y10, y11, y12, y13, rfl, hW3, lw, ew, S3⟩ := px
          exact sqL_of (S3 _ _ hP9)
        · obtain ⟨wd, y10, y11, y12, y13, rfl, hW3, lw, ew, S3⟩ := px
          obtain ⟨T', x1, x2, rfl, hT', rfl, ex1, ex2⟩ := y
          obtain rfl := Option.some.inj ex1
          obtain ⟨a, ea, rfl, a10, eD⟩ := pg j x2 ex2
          have jl : j < fs.length := by rw [nV_len, lp] at hj; exact hj
          generalize hU8 : upd G3 T' _ = G5
          obtain ⟨s5, hT5⟩ := new_of0 hT' hU8
          walk_at "go"
          refine ⟨LP, nV p, rfl, sqL_of ((S3.trans s5) _ _ hP9), ?_⟩
          refine for_it (walk_enum (xs := nV p)) (fun k σ G6 => ∃ (wd : List Nat) (y12 y13 : Option V), σ = [some (.ref r), some (.int 0), some (.int m), some (.ref af), some (.ref ab), some (.int fs.length), some (.ref LT), some (.ref LP), some (.int two), some (.ref LW), some (.int j), some (.int a), y12, y13, y14] ∧
              G6 LW = some (.lst (nV wd)) ∧ wd.length = 2 * fs.length ∧ (∀ s, wsum m fs bs wd s = sqs m fs bs p two j s + a * wsum m fs bs (p.take k) (s + j + two)) ∧ Same G1 G6)
            ⟨wd, y12, y13, rfl, s5 _ _ hW3, lw, fun s => by rw [ew]; simp [wsum], S3.trans s5⟩ (fun k σ G6 _ px => ?_) (fun k x σ G6 G7 hk px y => ?_) (fun σ G6 px => ?_)
          · obtain ⟨wd, y12, y13, rfl, hW6, lw, ew, S6'⟩ := px
            exact sqL_of (S6' _ _ hP9)
          · clear ew lw hW3 hT5 wd S3
            obtain ⟨wd, y12, y13, rfl, hW6, lw, ew, S6'⟩ := px
            obtain ⟨T2, x1, x2, rfl, hT2, rfl, ex1, ex2⟩ := y
            obtain rfl := Option.some.inj ex1
            obtain ⟨b, eb, rfl, b10, _⟩ := pg k x2 ex2
            have kl : k < fs.length := by rw [nV_len, lp] at hk; exact hk
            generalize hU9 : upd G6 T2 _ = G8
            obtain ⟨s8, hT8⟩ := new_of0 hT2 hU9
            have hW8 := s8 _ _ hW6
            walk_at "go"
            obtain ⟨v, hv⟩ : ∃ v, wd[j + k + two]? = some v := ⟨_, List.getElem?_eq_getElem (by omega)⟩
            have eq1 : (j : Int) + (k : Int) + (two : Int) = ((j + k + two : Nat) : Int) := by omega
            refine ⟨LW, nV wd, j + k + two, .int (v : Nat), rfl, congrArg V.int eq1, sqL_of hW8, nV_at hv, ?_⟩
            walk_at "go"
            refine ⟨LW, _, (j : Int) + (k : Int) + (two : Int), j + k + two, rfl, rfl, hW8, ix_at eq1 (by rw [nV_len]; omega), ?_⟩
            have e2 : (nV wd).set (j + k + two) (.int ((v : Int) + (a : Int) * (b : Int))) = nV (wd.set (j + k + two) (v + a * b)) := by
              rw [← nV_set, Int.natCast_add, Int.natCast_mul]
            refine ⟨wd.set (j + k + two) (v + a * b), _, _, rfl, ?_, by rw [List.length_set]; exact lw, fun s => ?_, same_mut (S6'.trans s8) nW⟩
            · rw [upd_same, ← e2]
            · rw [wsum_set hv, ew, wsum_take eb, Nat.mul_add, Nat.mul_assoc, show s + (j + k + two) = s + j + two + k by omega]
              omega
          · obtain ⟨wd, y12, y13, rfl, hW6, lw, ew, S6'⟩ := px
            refine ⟨wd, _, _, _, _, rfl, hW6, lw, fun s => ?_, S6'⟩
            rw [ew s, nV_len, List.take_length]
            show _ = sqs m fs bs p two j s + p.getD j 0 * _
            rw [eD]
        · obtain ⟨wd, y10, y11, y12, y13, rfl, hW3, lw, ew, S3⟩ := px
          rw [nV_len] at ew
          walk_at "go"
          refine ⟨2 * (fs.length : Int) - 1, (fs.length : Int) - 1, -1, fs.length, rfl, rg_down f1 f4, ?_⟩
          refine for_rangeC (lo := 2 * (fs.length : Int) - 1) (c := -1) (n := fs.length) (fun i σ G4 => ∃ (wd : List Nat) (y10 y11 y12 y13 y14 : Option V), σ = [some (.ref r), some (.int 0), some (.int m), some (.ref af), some (.ref ab), some (.int fs.length), some (.ref LT), some (.ref LP), some (.int two), some (.ref LW), y10, y11, y12, y13, y14] ∧
              G4 LW = some (.lst (nV wd)) ∧ wd.length = 2 * fs.length ∧ (∀ s, Cg m (wsum m fs bs (wd.take (2 * fs.length - i)) s) (xv m fs bs (s + (2 * e + two)))) ∧ Same G1 G4)
            ⟨wd, _, _, _, _, _, rfl, hW3, lw, fun s => ?_, S3⟩ (fun i σ G4 hi px => ?_) (fun σ G4 px => ?_)
          · rw [Nat.sub_zero, ← lw, List.take_length, ew]
            exact sqs_all tp s
          · clear ew lw hW3 wd S3
            obtain ⟨wd, y10, y11, y12, y13, y14, rfl, hW4, lw, ew, S4⟩ := px
            have ePl : 2 * (fs.length : Int) - 1 + (i : Int) * -1 = ((2 * fs.length - 1 - i : Nat) : Int) := by omega
            rw [ePl]
            generalize hPl : 2 * fs.length - 1 - i = Pl at ePl
            obtain ⟨w0, hw0⟩ : ∃ w0, wd[Pl]? = some w0 := ⟨_, List.getElem?_eq_getElem (by omega)⟩
            walk_at "go"
            refine ⟨af, nV fs, rfl, sqT_of (S4 _ _ hf9), ?_⟩
            refine for_it (walk_enT (xs := nV fs)) (fun k σ G6 => ∃ (wd' : List Nat) (y12 y14 : Option V), σ = [some (.ref r), some (.int 0), some (.int m), some (.ref af), some (.ref ab), some (.int fs.length), some (.ref LT), some (.ref LP), some (.int two), some (.ref LW), some (.int Pl), y11, y12, y13, y14] ∧
                G6 LW = some (.lst (nV wd')) ∧ wd'.length = 2 * fs.length ∧ wd'[Pl]? = some w0 ∧ (∀ s, wsum m fs bs (wd'.take Pl) s = wsum m fs bs (wd.take Pl) s + w0 * fsum m fs bs k (s + Pl)) ∧ Same G1 G6)
              ⟨wd, y12, y14, rfl, hW4, lw, hw0, fun s => by simp [fsum], S4⟩ (fun k σ G6 _ px => ?_) (fun k x σ G6 G7 hk px y => ?_) (fun σ G6 px => ?_)
            · obtain ⟨wd', y12, y14, rfl, hW6, lw', hw', ew', S6'⟩ := px
              exact sqT_of (S6' _ _ hf9)
            · obtain ⟨wd', y12, y14, rfl, hW6, lw', hw', ew', S6'⟩ := px
              obtain ⟨T2, x1, x2, rfl, hT2, rfl, ex1, ex2⟩ := y
              obtain rfl := Option.some.inj ex1
              obtain ⟨f, ef, rfl⟩ := nV_get ex2
              have f10 := (rl10 rl).1 f (List.mem_of_getElem? ef)
              have eD : fs.getD k 0 = f := by rw [List.getD_eq_getElem?_getD, ef]; rfl
              have kl : k < fs.length := by rw [nV_len] at hk; exact hk
              generalize hU9 : upd G6 T2 _ = G8
              obtain ⟨s8, hT8⟩ := new_of0 hT2 hU9
              have hW8 := s8 _ _ hW6
              walk_at "go"
              obtain ⟨v, hv⟩ : ∃ v, wd'[Pl - 1 - k]? = some v := ⟨_, List.getElem?_eq_getElem (by omega)⟩
              have eq1 : (Pl : Int) - 1 - (k : Int) = ((Pl - 1 - k : Nat) : Int) := by omega
              refine ⟨LW, nV wd', Pl - 1 - k, .int (v : Nat), rfl, congrArg V.int eq1, sqL_of hW8, nV_at hv, ?_⟩
              walk_at "go"
              refine go_ixL hW8 (nV_at hw') ?_
              walk_at "go"
              refine ⟨LW, _, (Pl : Int) - 1 - (k : Int), Pl - 1 - k, rfl, rfl, hW8, ix_at eq1 (by rw [nV_len]; omega), ?_⟩
              have e2 : (nV wd').set (Pl - 1 - k) (.int ((v : Int) + (f : Int) * (w0 : Int))) = nV (wd'.set (Pl - 1 - k) (v + f * w0)) := by
                rw [← nV_set, Int.natCast_add, Int.natCast_mul]
              refine ⟨wd'.set (Pl - 1 - k) (v + f * w0), _, _, rfl, ?_, by rw [List.length_set]; exact lw', ?_, fun s => ?_, same_mut (S6'.trans s8) nW⟩
              · rw [upd_same, ← e2]
              · rw [List.getElem?_set_ne (by omega)]
                exact hw'
              · have hv' : (wd'.take Pl)[Pl - 1 - k]? = some v := by rw [List.getElem?_take, if_pos (by omega)]; exact hv
                rw [List.take_set, wsum_set hv', ew', show s + (Pl - 1 - k) = s + Pl - 1 - k by omega]
                simp only [fsum]
                rw [eD, Nat.mul_add, ← Nat.mul_assoc w0, Nat.mul_comm w0 f]
                omega
            · obtain ⟨wd', y12, y14, rfl, hW6, lw', hw', ew', S6'⟩ := px
              refine ⟨wd', _, _, _, _, _, rfl, hW6, lw', fun s => ?_, S6'⟩
              rw [nV_len] at ew'
              rw [show 2 * fs.length - (i + 1) = Pl by omega, ew' s]
              have e3 := ew s
              rw [show 2 * fs.length - i = Pl + 1 by omega, wsum_take hw0] at e3
              exact ((Cg.refl _).add (Cg.mul _ (fsum_all rl (s + Pl) (by omega)))).trans e3
          · clear ew lw hW3 wd S3
            obtain ⟨wd, y10, y11, y12, y13, y14, rfl, hW4, lw, ew, S4⟩ := px
            rw [show 2 * fs.length - fs.length = fs.length by omega] at ew
            walk_at "go"
            intro B nB
            generalize hU8 : upd G4 B _ = G5
            obtain ⟨s5, hB⟩ := new_of0 nB hU8
            rw [cutV_to, nV_take] at hB
            walk_at "go"
            refine ⟨⟨_, sqL_of hB⟩, fun C nC => ?_⟩
            refine lc_it walk_list (fun i G6 => G6 C = some (.lst (nV (((wd.take fs.length).take i).map (· % m)))) ∧ Same G5 G6) ⟨upd_same, same_new nC⟩ (fun i G6 _ p => sqL_of (p.2 _ _ hB)) (fun i x G6 G7 hi p y => ?_) (fun G6 p => ?_)
            · obtain ⟨hC, S⟩ := p
              obtain ⟨rfl, hx⟩ := y
              obtain ⟨k, ek, rfl⟩ := nV_get hx
              walk_at "go"
              refine ⟨_, hC, Nat.lt_of_le_of_lt (by rw [nV_len, List.length_map, List.length_take, List.length_take]; omega : _ ≤ 4) (by decide), ?_, same_mut S nC⟩
              rw [upd_same, List.take_add_one, ek]
              show some (HO.lst (_ ++ [V.int ((k : Int) % (m : Int))])) = some (HO.lst (nV (List.map (· % m) ((wd.take fs.length).take i ++ [k]))))
              rw [List.map_append, List.map_singleton, nV_snoc, Int.natCast_emod]
            · obtain ⟨hC, S⟩ := p
              rw [List.take_of_length_le (by rw [nV_len]; exact Nat.le_refl _)] at hC
              refine ⟨C, (wd.take fs.length).map (· % m), _, _, _, _, _, _, _, rfl, hC, by rw [List.length_map, List.length_take]; omega, fun a ha => ?_, fun s => (wsum_mod _ s).trans (ew s), ?_⟩
              · obtain ⟨b, _, rfl⟩ := List.mem_map.mp ha
                have := Nat.mod_lt b (show 0 < m by omega)
                omega
              · exact (((S8.trans s9).trans S4).trans s5).trans S
      · obtain ⟨LP, p, y8, y9, y10, y11, y12, y13, y14, rfl, hP8, lp, p10, tp, S8⟩ := px
        rw [nV_len, List.length_reverse, Nat.sub_self, List.drop_zero, ev] at tp
        have hab8 := S8 _ _ (S7 _ _ R.bat)
        walk_at "go"
        refine ⟨LP, ab, nV p, nV bs, rfl, sqL_of hP8, sqT_of hab8, fun C nC => ?_⟩
        refine lc_it (walk_zipN rfl) (fun i H2 => H2 C = some (.lst (nV ((List.zipWith (· * ·) p bs).take i))) ∧ Same H8 H2) ⟨upd_same, same_new nC⟩
          (fun i H2 _ p => ⟨sqL_of (p.2 _ _ hP8), sqT_of (p.2 _ _ hab8)⟩) (fun i x H9 H10 hi px y => ?_) (fun H9 px => ?_)
        · obtain ⟨hC, S⟩ := px
          obtain ⟨T', x, y, rfl, hT', rfl, hx, hy⟩ := y
          obtain ⟨f, ef, rfl⟩ := nV_get hx
          obtain ⟨a, ea, rfl⟩ := nV_get hy
          have f10 := p10 f (List.mem_of_getElem? ef)
          have a10 : a < m := rl.bm a (List.mem_of_getElem? ea)
          generalize hU3 : upd H9 T' _ = H11
          obtain ⟨s11, hT11⟩ := new_of0 hT' hU3
          have hC11 := s11 _ _ hC
          have S11 := S.trans s11
          walk_at "go"
          have i4 : i < 4 := by rw [nV_len] at hi; omega
          refine ⟨_, hC11, small1000 (by rw [nV_len, List.length_take]; omega), ?_, same_mut S11 nC⟩
          rw [upd_same, zw_succ ef ea, nV_snoc, Int.natCast_mul]
        · obtain ⟨hC, S⟩ := px
          rw [List.take_of_length_le (by rw [List.length_zipWith, nV_len, nV_len]; exact Nat.le_refl _)] at hC
          refine ⟨C, (List.zipWith (· * ·) p bs).map fun k => ((k : Nat) : Int), rfl, sqL_of (by rw [hC, nV_ints]), ?_⟩
          rw [sum_nat]
          walk_at "go"
          have e9 := tells_end rl tp lp
          refine to_val ?_ (q H9 ((S7.trans S8).trans S))
          show V.int (_ % _) = _
          rw [← e9, Int.natCast_emod]
end
set_option pp.deepTerms false
set_option pp.deepTerms.threshold 5
section
variable {P : Program} {wd : World} {K : PySem.W.Frag} {mg : Str → Option Value} {base : Heap} (T : Tp K mg)
theorem kb_values_many_rule : KBinds K T.d_values ["rule", "many"] ["many", "rule"] swapW swapW := by
  obtain ⟨oc, od, kV, doc, pm, an, cdv, ct, osl, e, lk, hcd⟩ := T.F_values.ex
  rw [e]
  exact kbinds_swap fun a b => rfl
theorem kb_value_at_number_rule : KBinds K T.d_value_at ["rule", "number"] ["number", "rule"] swapW swapW := by
  obtain ⟨oc, od, kV, doc, pm, an, cdv, ct, osl, e, lk, hcd⟩ := T.F_value_at.ex
  rw [e]
  exact kbinds_swap fun a b => rfl
def spLaw (K : PySem.W.Frag) : Sp := fun vs H Q _ => ∃ (a : Addr) (ns : List Int), vs = [.ref a] ∧ SqL K H a (ns.map V.int) ∧ ns.length ≤ 63 ∧ ∀ H', Q (.bl true) H'
theorem rw_le9 {m : Nat} {fs bs : List Nat} (rl : Rl m fs bs) (n : Nat) : ∀ k ∈ rw_ m fs bs n, k ≤ 9 := fun k hk => by
  obtain ⟨j, _, rfl⟩ := List.mem_map.mp hk
  have := x_lt rl j
  have := rl.m9
  omega
theorem nV_rep (k : Nat) (l : List Nat) : (List.replicate k (nV l)).flatten = nV (repN k l) := by
  induction k with
  | zero => rfl
  | succ k ih =>
    rw [List.replicate_succ, List.flatten_cons, ih, repN_succ]
    exact List.map_append.symm
theorem row_again {m : Nat} {fs bs : List Nat} {h t : Nat} (rd : IsRound m fs bs h t) (n : Nat) : (rw_ m fs bs h ++ repN (n / t + 1) ((rw_ m fs bs (h + t)).drop h)).take n = rw_ m fs bs n := by
  have t1 := rd.t1
  have ld : ((rw_ m fs bs (h + t)).drop h).length = t := by rw [List.length_drop, rw_len]; omega
  have hd := Nat.div_add_mod n t
  have hm := Nat.mod_lt n (show 0 < t from t1)
  have e1 : (n / t + 1) * t = t * (n / t) + t := by rw [Nat.succ_mul, Nat.mul_comm]
  apply List.ext_getElem?
  intro i
  rw [List.getElem?_take]
  by_cases hi : i < n
  · rw [if_pos hi, rw_get hi]
    by_cases hh : i < h
    · rw [List.getElem?_append_left (by rw [rw_len]; exact hh), rw_get hh]
    · rw [List.getElem?_append_right (by rw [rw_len]; omega), rw_len, repN_get _ _ _ (by rw [ld, e1]; omega), ld, List.getElem?_drop]
      have := Nat.mod_lt (i - h) (show 0 < t from t1)
      rw [rw_get (by omega), rd.far (by omega)]
  · rw [if_neg hi, List.getElem?_eq_none (by rw [rw_len]; omega)]
theorem ok_law : FnG P wd K mg base 4 T.a_law T.d_law ["_law_script"] (spLaw K) := by
  have G_deck : FnOk P wd K mg base CX0 1 T.a_deck T.d_deck ["_law_script"] (spDeck K) := ok_deck T
  have G_draw : FnOk P wd K mg base CX0 1 T.a_draw T.d_draw ["_law_deck_here", "_law_many"] spDraw := ok_draw T
  have G_pick : FnOk P wd K mg base CX0 2 T.a_pick T.d_pick ["_law_deck_here", "_law_items"] spPick := ok_pick T
  have G_far : FnOk P wd K mg base CX0 2 T.a_far T.d_far ["_law_deck_here", "_law_many"] spFar := ok_far T
  have G_rule : FnOk P wd K mg base CX0 3 T.a_rule T.d_rule ["_law_deck_here", "_law_most"] spRule := ok_rule T
  have G_row : FnOk P wd K mg base CX0 1 T.a_row T.d_row ["_law_rule_here", "_law_many"] spRow := ok_row T
  have G_going : FnOk P wd K mg base CX0 1 T.a_going T.d_going ["_law_rule_here", "_law_most"] spGoing := ok_going T
  have G_far_value : FnOk P wd K mg base CX0 1 T.a_far_value T.d_far_value ["_law_rule_here", "_law_number"] spFarValue := ok_far_value T
  have G_values : FnOk P wd K mg base CX0 2 T.a_values T.d_values ["rule", "many"] spValues := ok_values T
  have G_value_at : FnOk P wd K mg base CX0 3 T.a_value_at T.d_value_at ["rule", "number"] spValueAt := ok_value_at T
  refine fnG_of T.F_law sc_law (fun vs H Q E h => ?_) (fun cdv A ou s H vs Q E hgd0 hr h => ?_)
  · obtain ⟨a, ns, rfl, _⟩ := h
    rfl
  · have hgd : (cxOf CX0 P wd K mg base nm_law "law" (defScope s_law) T.a_law cdv A ou s H E).nox.A.guards = some [] := hgd0
    have hu4 : (cxOf CX0 P wd K mg base nm_law "law" (defScope s_law) T.a_law cdv A ou s H E).nox.A.units + 64 < cLine := hr.units
    obtain ⟨a, ns, rfl, hS, hl, q⟩ := h
    refine ⟨_, (pss_cons (ps_set (i := 1) sc_law.nd rfl (Or.inl rfl) (pe_call G_deck (hr.mono (by decide)) rfl T.g_deck T.F_deck.kp (b_deck T) .nil pass0 (pa_cons (pv 0) pa_nil)))
      (pss_cons (ps_for PassesOwn.never rfl (pi_range1 rfl T.n_range (pa_cons pe_int pa_nil)) (pg_name (i := 2) sc_law.nd rfl (Or.inl rfl)) (pss_cons (ps_set (i := 3) sc_law.nd rfl (Or.inl rfl) (pe_call G_rule hr rfl T.g_rule T.F_rule.kp (b_rule T) .nil pass0 (pa_cons (pv 1) (pa_cons pe_int pa_nil))))
      (pss_cons (ps_par (i := 4) (j := 5) rfl sc_law.nd rfl rfl (by decide) rfl rfl (pa_cons (pe_callB call_len_seq rfl T.n_len PySem.boot_len (pa_cons (pe_ix ix_tup (pv 3) pe_int (fun _ _ => rfl)) pa_nil)) (pa_cons (pe_call G_row (hr.mono (by decide)) rfl T.g_row T.F_row.kp (b_row T) .nil pass0 (pa_cons (pv 3) (pa_cons pe_int pa_nil))) pa_nil)) rfl)
      (pss_cons (ps_for PassesOwn.never rfl (pi_list (pe_lst (pa_cons (pe_call G_pick (hr.mono (by decide)) rfl T.g_pick T.F_pick.kp (b_pick T) .nil pass0 (pa_cons (pv 1) (pa_cons (pe_lst (pa_cons pe_int (pa_cons pe_int (pa_cons (pe_op op_sub (pv 4) pe_int) (pa_cons (pv 4) (pa_cons (pe_op op_add (pv 4) pe_int) pa_nil)))))) pa_nil))) (pa_cons (pe_call G_draw (hr.mono (by decide)) rfl T.g_draw T.F_draw.kp (b_draw T) .nil pass0 (pa_cons (pv 1) (pa_cons pe_int pa_nil))) (pa_cons pe_int pa_nil))))) (pg_name (i := 6) sc_law.nd rfl (Or.inl rfl)) (pss_cons (ps_set (i := 7) sc_law.nd rfl (Or.inl rfl) (pe_callTy call_tuple_of rfl T.n_tuple (by decide +kernel) (pa_cons (pe_slice sl_list (pv 5) po_none (po_some (pv 6))) pa_nil)))
      (pss_one (ps_if (pt_cmpR op_ne (pe_callB (call_reprD hgd hu4) rfl T.n_repr (by decide +kernel) (pa_cons (pe_lst (pa_cons (pe_call G_values (hr.mono (by decide)) rfl T.g_values T.F_values.kp (b_values T) .nil pass0 (pa_cons (pv 3) (pa_cons (pv 6) pa_nil))) (pa_cons (pe_callK0 G_values (hr.mono (by decide)) rfl T.g_values T.F_values.kp (kb_values_many_rule T) pass0 (pk_cons (pv 6) (pk_cons (pv 3) pk_nil))) pa_nil))) pa_nil)) (pe_callB (call_reprD hgd hu4) rfl T.n_repr (by decide +kernel) (pa_cons (pe_lst (pa_cons (pv 7) (pa_cons (pv 7) pa_nil))) pa_nil)) (nomark _)) (pss_one (ps_ret pe_bl)) pss_nil))))
      (pss_cons (ps_for PassesOwn.never rfl (pi_list (pe_lst (pa_cons (pe_call G_draw (hr.mono (by decide)) rfl T.g_draw T.F_draw.kp (b_draw T) .nil pass0 (pa_cons (pv 1) (pa_cons (pv 4) pa_nil))) (pa_cons (pe_op op_add (pv 4) (pe_call G_draw (hr.mono (by decide)) rfl T.g_draw T.F_draw.kp (b_draw T) .nil pass0 (pa_cons (pv 1) (pa_cons pe_int pa_nil)))) (pa_cons (pe_call G_draw (hr.mono (by decide)) rfl T.g_draw T.F_draw.kp (b_draw T) .nil pass0 (pa_cons (pv 1) (pa_cons pe_int pa_nil))) pa_nil))))) (pg_name (i := 6) sc_law.nd rfl (Or.inl rfl)) (pss_one (ps_if (pt_cmpR op_ne (pe_callB (call_reprD hgd hu4) rfl T.n_repr (by decide +kernel) (pa_cons (pe_lst (pa_cons (pe_call G_value_at hr rfl T.g_value_at T.F_value_at.kp (b_value_at T) .nil pass0 (pa_cons (pv 3) (pa_cons (pv 6) pa_nil))) (pa_cons (pe_callK0 G_value_at hr rfl T.g_value_at T.F_value_at.kp (kb_value_at_number_rule T) pass0 (pk_cons (pv 6) (pk_cons (pv 3) pk_nil))) pa_nil))) pa_nil)) (pe_callB (call_reprD hgd hu4) rfl T.n_repr (by decide +kernel) (pa_cons (pe_op op_rep (pe_lst (pa_cons (pe_ix ix_list (pv 5) (pv 6) (fun _ _ => rfl)) pa_nil)) pe_int) pa_nil)) (nomark _)) (pss_one (ps_ret pe_bl)) pss_nil)))
      (pss_cons (ps_set (i := 8) sc_law.nd rfl (Or.inl rfl) (pe_op op_sub (pe_op op_pow pe_int pe_int) (pe_call G_pick (hr.mono (by decide)) rfl T.g_pick T.F_pick.kp (b_pick T) .nil pass0 (pa_cons (pv 1) (pa_cons (pe_lst (pa_cons pe_int (pa_cons pe_int (pa_cons pe_int (pa_cons pe_int (pa_cons pe_int (pa_cons (pe_un un_neg pe_int) (pa_cons (pe_op op_sub (pe_un un_neg pe_int) (pe_call G_draw (hr.mono (by decide)) rfl T.g_draw T.F_draw.kp (b_draw T) .nil pass0 (pa_cons (pv 1) (pa_cons pe_int pa_nil)))) pa_nil)))))))) pa_nil)))))
      (pss_one (ps_for PassesOwn.never rfl (pi_list (pe_lst (pa_cons (pe_call G_pick (hr.mono (by decide)) rfl T.g_pick T.F_pick.kp (b_pick T) .nil pass0 (pa_cons (pv 1) (pa_cons (pe_lst (pa_cons (pv 8) (pa_cons (pe_call G_far (hr.mono (by decide)) rfl T.g_far T.F_far.kp (b_far T) .nil pass0 (pa_cons (pv 1) (pa_cons (pe_op op_pow pe_int pe_int) pa_nil))) pa_nil))) pa_nil))) (pa_cons (pe_call G_far (hr.mono (by decide)) rfl T.g_far T.F_far.kp (b_far T) .nil pass0 (pa_cons (pv 1) (pa_cons (pe_op op_pow pe_int pe_int) pa_nil))) pa_nil)))) (pg_name (i := 6) sc_law.nd rfl (Or.inl rfl)) (pss_one (ps_if (pt_cmpR op_ne (pe_callB call_reprO rfl T.n_repr (by decide +kernel) (pa_cons (pe_call G_value_at hr rfl T.g_value_at T.F_value_at.kp (b_value_at T) .nil pass0 (pa_cons (pv 3) (pa_cons (pv 6) pa_nil))) pa_nil)) (pe_callB call_reprO rfl T.n_repr (by decide +kernel) (pa_cons (pe_call G_far_value (hr.mono (by decide)) rfl T.g_far_value T.F_far_value.kp (b_far_value T) .nil pass0 (pa_cons (pv 3) (pa_cons (pv 6) pa_nil))) pa_nil)) (nomark _)) (pss_one (ps_ret pe_bl)) pss_nil))))))))))
      (pss_cons (ps_set (i := 3) sc_law.nd rfl (Or.inl rfl) (pe_call G_rule hr rfl T.g_rule T.F_rule.kp (b_rule T) .nil pass0 (pa_cons (pv 1) (pa_cons pe_int pa_nil))))
      (pss_cons (ps_asg (pe_call G_going (hr.mono (by decide)) rfl T.g_going T.F_going.kp (b_going T) .nil pass0 (pa_cons (pv 3) (pa_cons pe_int pa_nil))) (pg_tup rfl (pgs_cons (pg_name (i := 5) sc_law.nd rfl (Or.inl rfl)) (pgs_cons (pg_name (i := 9) sc_law.nd rfl (Or.inl rfl)) pgs_nil))))
      (pss_cons (ps_par (i := 10) (j := 11) rfl sc_law.nd rfl rfl (by decide) rfl rfl (pa_cons (pe_callTy call_tuple_of rfl T.n_tuple (by decide +kernel) (pa_cons (pe_slice sl_list (pv 5) po_none (po_some (pv 9))) pa_nil)) (pa_cons (pe_callTy call_tuple_of rfl T.n_tuple (by decide +kernel) (pa_cons (pe_slice sl_list (pv 5) (po_some (pv 9)) po_none) pa_nil)) pa_nil)) rfl)
      (pss_cons (ps_set (i := 6) sc_law.nd rfl (Or.inl rfl) (pe_call G_pick (hr.mono (by decide)) rfl T.g_pick T.F_pick.kp (b_pick T) .nil pass0 (pa_cons (pv 1) (pa_cons (pe_lst (pa_cons pe_int (pa_cons pe_int (pa_cons (pe_op op_sub pe_int (pe_call G_draw (hr.mono (by decide)) rfl T.g_draw T.F_draw.kp (b_draw T) .nil pass0 (pa_cons (pv 1) (pa_cons pe_int pa_nil)))) (pa_cons (pe_op op_add pe_int (pe_call G_draw (hr.mono (by decide)) rfl T.g_draw T.F_draw.kp (b_draw T) .nil pass0 (pa_cons (pv 1) (pa_cons pe_int pa_nil)))) (pa_cons pe_int (pa_cons pe_int pa_nil))))))) pa_nil))))
      (pss_cons (ps_if (pt_cmpR op_ne (pe_callB (call_reprD hgd hu4) rfl T.n_repr (by decide +kernel) (pa_cons (pe_call G_values (hr.mono (by decide)) rfl T.g_values T.F_values.kp (b_values T) .nil pass0 (pa_cons (pv 3) (pa_cons (pv 6) pa_nil))) pa_nil)) (pe_callB (call_reprD hgd hu4) rfl T.n_repr (by decide +kernel) (pa_cons (pe_slice sl_tupA (pe_op op_catA (pv 10) (pe_op op_repA (pv 11) (pe_op op_add (pe_op op_fdiv (pv 6) (pe_callB call_len_seq rfl T.n_len PySem.boot_len (pa_cons (pv 11) pa_nil))) pe_int))) po_none (po_some (pv 6))) pa_nil)) (nomark _)) (pss_one (ps_ret pe_bl)) pss_nil)
      (pss_cons (ps_set (i := 6) sc_law.nd rfl (Or.inl rfl) (pe_call G_pick (hr.mono (by decide)) rfl T.g_pick T.F_pick.kp (b_pick T) .nil pass0 (pa_cons (pv 1) (pa_cons (pe_lst (pa_cons (pe_op op_pow pe_int pe_int) (pa_cons (pe_call G_far (hr.mono (by decide)) rfl T.g_far T.F_far.kp (b_far T) .nil pass0 (pa_cons (pv 1) (pa_cons (pe_op op_pow pe_int pe_int) pa_nil))) (pa_cons pe_int (pa_cons (pe_callB call_len_seq rfl T.n_len PySem.boot_len (pa_cons (pv 5) pa_nil)) (pa_cons (pv 9) pa_nil)))))) pa_nil))))
      (pss_cons (ps_set (i := 7) sc_law.nd rfl (Or.inl rfl) (pe_cut (pe_ifExp (pt_cmpR op_lt (pv 6) (pe_callB call_len_seq rfl T.n_len PySem.boot_len (pa_cons (pv 5) pa_nil)) (nomark _)) (pe_ix ix_list (pv 5) (pv 6) (fun _ _ => rfl)) (pe_ix ix_tup (pv 11) (pe_op op_mod (pe_callTy call_int1 rfl T.n_int (by decide +kernel) (pa_cons (pe_op op_sub (pv 6) (pv 9)) pa_nil)) (pe_callB call_len_seq rfl T.n_len PySem.boot_len (pa_cons (pv 11) pa_nil))) (fun _ _ => rfl)))))
      (pss_one (ps_ret (pe_and (pe_cmpR op_eq (pe_callB call_reprO rfl T.n_repr (by decide +kernel) (pa_cons (pe_call G_value_at hr rfl T.g_value_at T.F_value_at.kp (b_value_at T) .nil pass0 (pa_cons (pv 3) (pa_cons (pv 6) pa_nil))) pa_nil)) (pe_callB call_reprO rfl T.n_repr (by decide +kernel) (pa_cons (pv 7) pa_nil)) (nomark _)) (pe_one (pe_cmpR op_eq (pv 7) (pe_call G_far_value (hr.mono (by decide)) rfl T.g_far_value T.F_far_value.kp (b_far_value T) .nil pass0 (pa_cons (pv 3) (pa_cons (pv 6) pa_nil))) (nomark _))))))))))))))), ?_⟩
    walk_at "go"
    refine ⟨a, ns, rfl, hS, hl, fun w g c H1 s1 W1 => ?_⟩
    walk_at "go"
    refine for_range (lo := 0) (n := 4) (fun i σ H2 => ∃ y2 y3 y4 y5 y6 y7 y8 : Option V, σ = [some (.ref a), some (.ref w), y2, y3, y4, y5, y6, y7, y8, none, none, none] ∧ Dk w g c H2)
      ⟨_, _, _, _, _, _, _, rfl, W1⟩ (fun i σ H2 hi px => ?_) (fun σ H2 px => ?_)
    · obtain ⟨y2, y3, y4, y5, y6, y7, y8, rfl, W2⟩ := px
      walk_at "go"
      refine ⟨w, g, c, 5000, rfl, W2, by decide, by decide, fun r af ab m fs bs H3 s3 W3 R3 kM => ?_⟩
      have rl := R3.rl
      have m2 := rl.m2
      have m9 := rl.m9
      have f1 := rl.f1
      have f4 := rl.f4
      have hr3 := R3.at_
      have hf3 := R3.fat
      have eln : (nV fs).length = fs.length := nV_len fs
      walk_at "go"
      refine ⟨r, af, ab, m, fs, bs, 70, rfl, R3, by decide, fun LO H4 s4 nO hO => ?_⟩
      have R4 := R3.same s4
      have W4 := W3.same s4
      have aO : Ac w g c H4 LO (.lst (nV (rw_ m fs bs 70))) := ⟨(W3.fresh nO).1, (W3.fresh nO).2.1, (W3.fresh nO).2.2, hO⟩
      clear s3 s4 nO hr3 hf3 R3 W3 W2
      walk_at "go"
      intro l1 nl1
      generalize hU1 : upd H4 l1 _ = H5
      obtain ⟨s5, W5, al1⟩ := new_ofC W4 nl1 hU1
      refine ⟨w, g, c, l1, _, rfl, W5, al1, by simp, by simp, fun x H6 mx s6 W6 => ?_⟩
      obtain ⟨n1, hn1, rfl⟩ : ∃ n1 : Nat, n1 ≤ 70 ∧ x = .int (n1 : Nat) := by
        have mx2 : x = V.int 0 ∨ x = V.int 1 ∨ x = V.int ((fs.length : Int) - 1) ∨ x = V.int (fs.length : Int) ∨ x = V.int ((fs.length : Int) + 1) := by
          rw [eln] at mx
          simpa using mx
        rcases mx2 with rfl | rfl | rfl | rfl | rfl
        · exact ⟨0, by decide, rfl⟩
        · exact ⟨1, by decide, rfl⟩
        · exact ⟨fs.length - 1, by omega, congrArg V.int (by omega)⟩
        · exact ⟨fs.length, by omega, rfl⟩
        · exact ⟨fs.length + 1, by omega, congrArg V.int (by omega)⟩
      walk_at "go"
      refine ⟨w, g, c, _, rfl, W6, by omega, by omega, fun d H7 s7 W7 d0 d1 => ?_⟩
      obtain ⟨n2, rfl⟩ : ∃ n2 : Nat, d = (n2 : Int) := ⟨d.toNat, by omega⟩
      walk_at "go"
      intro l2 nl2
      generalize hU2 : upd H7 l2 _ = H8
      obtain ⟨s8, W8, al2⟩ := new_ofC W7 nl2 hU2
      have S8 : Go w g H4 H8 := (((Go.of s5).trans s6).trans s7).trans (Go.of s8)
      have R8 := R4.go W4 S8
      have aO8 := aO.go S8
      have al28 := al2.at_
      clear s5 s6 s7 s8 S8 aO R4 W4 W5 W6 W7 al1 mx nl1 nl2 hU1 hU2
      walk_at "go"
      refine ⟨⟨_, sqL_of al28⟩, ?_⟩
      refine for_it walk_list (fun i σ H9 => ∃ y2 y6 y7 y8 : Option V, σ = [some (.ref a), some (.ref w), y2, some (.ref r), some (.int (((nV fs).length : Nat) : Int)), some (.ref LO), y6, y7, y8, none, none, none] ∧ Same H8 H9)
        ⟨_, _, _, _, rfl, Same.rfl'⟩ (fun i σ H9 _ px => sqL_of (px.choose_spec.choose_spec.choose_spec.choose_spec.2 _ _ al28)) (fun i x σ H9 H10 hi px y => ?_) (fun σ H9 px => ?_)
      · obtain ⟨y2, y6, y7, y8, rfl, S9⟩ := px
        obtain ⟨rfl, hx⟩ := y
        obtain ⟨n, hn, rfl⟩ : ∃ n : Nat, n ≤ 70 ∧ x = .int (n : Nat) := by
          have mx := List.mem_of_getElem? hx
          have mx2 : x = V.int (n1 : Int) ∨ x = V.int (n2 : Int) ∨ x = V.int 70 := by simpa using mx
          rcases mx2 with rfl | rfl | rfl
          · exact ⟨n1, hn1, rfl⟩
          · exact ⟨n2, by omega, rfl⟩
          · exact ⟨70, by decide, rfl⟩
        have hO9 := S9 _ _ aO8.at_
        have R9 := R8.same S9
        walk_at "go"
        intro B nB
        generalize hU1 : upd H10 B _ = H11
        obtain ⟨s11, hB⟩ := new_of0 nB hU1
        rw [cutV_to, nV_take, rw_take, Nat.min_eq_left hn] at hB
        refine ⟨B, _, rfl, .inl ⟨sqL_of hB, fun p1 np1 => ?_⟩⟩
        generalize hU2 : upd H11 p1 _ = H12
        obtain ⟨s12, hp1⟩ := new_of0 np1 hU2
        have S12 := (S9.trans s11).trans s12
        walk_at "go"
        refine ⟨r, af, ab, m, fs, bs, n, rfl, R8.same S12, by omega, fun p2 H13 s13 hp2 => ?_⟩
        walk_at "go"
        refine ⟨r, af, ab, m, fs, bs, n, rfl, (R8.same S12).same s13, by omega, fun p3 H14 s14 hp3 => ?_⟩
        walk_at "go"
        intro l5 nl5
        generalize hU5 : upd H14 l5 _ = H15
        obtain ⟨s15, hl5⟩ := new_of0 nl5 hU5
        have l9 := rw_le9 rl n
        have ll : (rw_ m fs bs n).length ≤ 10000 := by rw [rw_len]; omega
        refine repr_dg2 hl5 (s15 _ _ (s14 _ _ hp2)) (s15 _ _ hp3) l9 l9 ll ll ?_
        walk_at "go"
        intro l6 nl6
        generalize hU6 : upd H15 l6 _ = H16
        obtain ⟨s16, hl6⟩ := new_of0 nl6 hU6
        have hp16 := s16 _ _ (s15 _ _ (s14 _ _ (s13 _ _ hp1)))
        refine repr_dg2 hl6 hp16 hp16 l9 l9 ll ll ?_
        walk_at "go"
        refine ifDn (fun c => absurd rfl c) (fun _ => ?_)
        exact ⟨_, _, _, _, rfl, (((S12.trans s13).trans s14).trans s15).trans s16⟩
      · obtain ⟨y2, y6, y7, y8, rfl, S9⟩ := px
        have R9 := R8.same S9
        have W9 := W8.same S9
        have aO9 := aO8.same S9
        clear al28 S9 R8 W8 aO8 al2
        walk_at "go"
        refine ⟨w, g, c, _, rfl, W9, by omega, by omega, fun d H10 s10 W10 d0 d1 => ?_⟩
        obtain ⟨n3, rfl⟩ : ∃ n3 : Nat, d = (n3 : Int) := ⟨d.toNat, by omega⟩
        walk_at "go"
        refine ⟨w, g, c, _, rfl, W10, by omega, by omega, fun d H11 s11 W11 d0 d1 => ?_⟩
        obtain ⟨n4, rfl⟩ : ∃ n4 : Nat, d = (n4 : Int) := ⟨d.toNat, by omega⟩
        walk_at "go"
        refine ⟨w, g, c, _, rfl, W11, by omega, by omega, fun d H12 s12 W12 d0 d1 => ?_⟩
        obtain ⟨n5, rfl⟩ : ∃ n5 : Nat, d = (n5 : Int) := ⟨d.toNat, by omega⟩
        walk_at "go"
        intro l7 nl7
        generalize hU7 : upd H12 l7 _ = H13
        obtain ⟨s13, W13, al7⟩ := new_ofC W12 nl7 hU7
        have S13 : Go w g H9 H13 := ((s10.trans s11).trans s12).trans (Go.of s13)
        have R13 := R9.go W9 S13
        have aO13 := aO9.go S13
        have al78 := al7.at_
        clear s10 s11 s12 s13 S13 aO9 R9 W9 W10 W11 W12 nl7 hU7 al7
        walk_at "go"
        refine ⟨⟨_, sqL_of al78⟩, ?_⟩
        refine for_it walk_list (fun i σ H9 => ∃ y2 y6 y7 y8 : Option V, σ = [some (.ref a), some (.ref w), y2, some (.ref r), some (.int (((nV fs).length : Nat) : Int)), some (.ref LO), y6, y7, y8, none, none, none] ∧ Same H13 H9)
          ⟨_, _, _, _, rfl, Same.rfl'⟩ (fun i σ H9 _ px => sqL_of (px.choose_spec.choose_spec.choose_spec.choose_spec.2 _ _ al78)) (fun i x σ H14 H15 hi px y => ?_) (fun σ H14 px => ?_)
        · obtain ⟨y2, y6, y7, y8, rfl, S9⟩ := px
          obtain ⟨rfl, hx⟩ := y
          obtain ⟨n, hn, rfl⟩ : ∃ n : Nat, n < 70 ∧ x = .int (n : Nat) := by
            have mx := List.mem_of_getElem? hx
            have mx2 : x = V.int (n3 : Int) ∨ x = V.int (((nV fs).length : Int) + (n4 : Int)) ∨ x = V.int (n5 : Int) := by simpa using mx
            rcases mx2 with rfl | rfl | rfl
            · exact ⟨n3, by omega, rfl⟩
            · exact ⟨fs.length + n4, by omega, congrArg V.int (by omega)⟩
            · exact ⟨n5, by omega, rfl⟩
          have hO9 := S9 _ _ aO13.at_
          have R9 := R13.same S9
          have xm := x_lt rl n
          walk_at "go"
          refine ⟨r, af, ab, m, fs, bs, n, rfl, R9, fun H16 s16 => ?_⟩
          walk_at "go"
          refine ⟨r, af, ab, m, fs, bs, n, rfl, R9.same s16, fun H17 s17 => ?_⟩
          walk_at "go"
          intro l5 nl5
          generalize hU5 : upd H17 l5 _ = H18
          obtain ⟨s18, hl5⟩ := new_of0 nl5 hU5
          refine repr_i2 hl5 (by omega) (by omega) ?_
          have hO18 := s18 _ _ (s17 _ _ (s16 _ _ hO9))
          have go0 := nV_at (rw_get (m := m) (fs := fs) (bs := bs) hn)
          walk_at "go"
          intro l6 nl6
          generalize hU6 : upd H18 l6 _ = H19
          obtain ⟨s19, hl6⟩ := new_of0 nl6 hU6
          walk_at "go"
          refine ⟨l6, 2, _, rfl, rfl, hl6, by decide, by decide, szl (by simp), fun l7' nl7' => ?_⟩
          generalize hU7 : upd H19 l7' _ = H20
          obtain ⟨s20, hl7'⟩ := new_of0 nl7' hU7
          refine repr_i2 (a := xv m fs bs n) (b := xv m fs bs n) hl7' (by omega) (by omega) ?_
          walk_at "go"
          refine ifDn (fun c => absurd rfl c) (fun _ => ?_)
          exact ⟨_, _, _, _, rfl, ((((S9.trans s16).trans s17).trans s18).trans s19).trans s20⟩
        · obtain ⟨y2, y6, y7, y8, rfl, S9⟩ := px
          have R14 := R13.same S9
          have W14 := W13.same S9
          clear al78 S9 R13 W13 aO13
          walk_at "go"
          refine ⟨w, g, c, _, rfl, W14, by omega, by omega, fun d H15 s15 W15 d0 d1 => ?_⟩
          walk_at "go"
          intro l8 nl8
          generalize hU8 : upd H15 l8 _ = H16
          obtain ⟨s16, W16, al8⟩ := new_ofC W15 nl8 hU8
          refine ⟨w, g, c, l8, _, rfl, W16, al8, by simp, by simp, fun x H17 mx s17 W17 => ?_⟩
          obtain ⟨z, z0, z1, rfl⟩ : ∃ z : Int, -1001 ≤ z ∧ z ≤ 999999999 ∧ x = .int z := by
            have mx2 : x = V.int 0 ∨ x = V.int 0 ∨ x = V.int 1 ∨ x = V.int 2 ∨ x = V.int 999999999 ∨ x = V.int (-1) ∨ x = V.int (-1 - d) := by simpa using mx
            rcases mx2 with rfl | rfl | rfl | rfl | rfl | rfl | rfl
            · exact ⟨0, by decide, by decide, rfl⟩
            · exact ⟨0, by decide, by decide, rfl⟩
            · exact ⟨1, by decide, by decide, rfl⟩
            · exact ⟨2, by decide, by decide, rfl⟩
            · exact ⟨999999999, by decide, by decide, rfl⟩
            · exact ⟨-1, by decide, by decide, rfl⟩
            · exact ⟨-1 - d, by omega, by omega, rfl⟩
          walk_at "go"
          have e18 : (10 : Int) ^ Int.toNat 18 = 1000000000000000000 := by decide
          have e6 : (10 : Int) ^ Int.toNat 6 = 1000000 := by decide
          refine ⟨w, g, c, 10 ^ Int.toNat 18, rfl, W17, by decide, fun f H18 s18 W18 f0 f1 => ?_⟩
          walk_at "go"
          intro l9 nl9
          generalize hU9 : upd H18 l9 _ = H19
          obtain ⟨s19, W19, al9⟩ := new_ofC W18 nl9 hU9
          refine ⟨w, g, c, l9, _, rfl, W19, al9, by simp, by simp, fun x H20 mx1 s20 W20 => ?_⟩
          obtain ⟨n6, hn6, rfl⟩ : ∃ n6 : Nat, n6 < 2 ^ 100 ∧ x = .int (n6 : Nat) := by
            have mx2 : x = V.int ((10 : Int) ^ Int.toNat 18 - z) ∨ x = V.int f := by simpa using mx1
            rw [e18] at mx2 f1
            rcases mx2 with rfl | rfl
            · exact ⟨(1000000000000000000 - z).toNat, by omega, congrArg V.int (by omega)⟩
            · exact ⟨f.toNat, by omega, congrArg V.int (by omega)⟩
          walk_at "go"
          refine ⟨w, g, c, 10 ^ Int.toNat 6, rfl, W20, by decide, fun f2 H21 s21 W21 f20 f21 => ?_⟩
          walk_at "go"
          intro l10 nl10
          generalize hU10 : upd H21 l10 _ = H22
          obtain ⟨s22, W22, al10⟩ := new_ofC W21 nl10 hU10
          have S22 : Go w g H14 H22 := ((((((s15.trans (Go.of s16)).trans s17).trans s18).trans (Go.of s19)).trans s20).trans s21).trans (Go.of s22)
          have R22 := R14.go W14 S22
          have al108 := al10.at_
          clear s15 s16 s17 s18 s19 s20 s21 s22 S22 R14 W14 W15 W16 W17 W18 W19 W20 W21 mx mx1 al8 al9 al10 nl8 nl9 nl10 hU8 hU9 hU10
          walk_at "go"
          refine ⟨⟨_, sqL_of al108⟩, ?_⟩
          refine for_it walk_list (fun i σ H9 => ∃ y2 y6 y7 y8 : Option V, σ = [some (.ref a), some (.ref w), y2, some (.ref r), some (.int (((nV fs).length : Nat) : Int)), some (.ref LO), y6, y7, y8, none, none, none] ∧ Same H22 H9)
            ⟨_, _, _, _, rfl, Same.rfl'⟩ (fun i σ H9 _ px => sqL_of (px.choose_spec.choose_spec.choose_spec.choose_spec.2 _ _ al108)) (fun i x σ H23 H24 hi px y => ?_) (fun σ H23 px => ?_)
          · obtain ⟨y2, y6, y7, y8, rfl, S9⟩ := px
            obtain ⟨rfl, hx⟩ := y
            obtain ⟨n, hn, rfl⟩ : ∃ n : Nat, n < 2 ^ 100 ∧ x = .int (n : Nat) := by
              have mx := List.mem_of_getElem? hx
              have mx2 : x = V.int (n6 : Int) ∨ x = V.int f2 := by simpa using mx
              rw [e6] at f21
              rcases mx2 with rfl | rfl
              · exact ⟨n6, hn6, rfl⟩
              · exact ⟨f2.toNat, by omega, congrArg V.int (by omega)⟩
            have R9 := R22.same S9
            have xm := x_lt rl n
            walk_at "go"
            refine ⟨r, af, ab, m, fs, bs, n, rfl, R9, fun H25 s25 => ?_⟩
            walk_at "go"
            refine ⟨.inr ⟨_, rfl, log_small (by omega) (by omega)⟩, ?_⟩
            walk_at "go"
            refine ⟨r, af, ab, m, fs, bs, n, rfl, R9.same s25, hn, fun H26 s26 => ?_⟩
            walk_at "go"
            refine ⟨.inr ⟨_, rfl, log_small (by omega) (by omega)⟩, ?_⟩
            walk_at "go"
            refine ifDn (fun c => absurd rfl c) (fun _ => ?_)
            exact ⟨_, _, _, _, rfl, (S9.trans s25).trans s26⟩
          · obtain ⟨y2, y6, y7, y8, rfl, S9⟩ := px
            exact ⟨_, _, _, _, _, _, _, rfl, W22.same S9⟩
    · obtain ⟨y2, y3, y4, y5, y6, y7, y8, rfl, W2⟩ := px
      walk_at "go"
      refine ⟨w, g, c, 81, rfl, W2, by decide, by decide, fun r af ab m fs bs H3 s3 W3 R3 kM => ?_⟩
      have rl := R3.rl
      have m2 := rl.m2
      have m9 := rl.m9
      have f1 := rl.f1
      have f4 := rl.f4
      walk_at "go"
      refine ⟨r, af, ab, m, fs, bs, 81, rfl, R3, by decide, kM, fun p LO H4 h t s4 rd hp nO hO => ?_⟩
      have R4 := R3.same s4
      have W4 := W3.same s4
      have t1 := rd.t1
      have le := rd.le rl
      have aO : Ac w g c H4 LO (.lst (nV (rw_ m fs bs (h + t)))) := ⟨(W3.fresh nO).1, (W3.fresh nO).2.1, (W3.fresh nO).2.2, hO⟩
      clear s3 s4 nO W3 W2 R3
      walk_at "go"
      intro B1 nB1
      generalize hU1 : upd H4 B1 _ = H5
      obtain ⟨s5, hB1⟩ := new_of0 nB1 hU1
      rw [cutV_to, nV_take, rw_take, Nat.min_eq_left (by omega)] at hB1
      refine ⟨B1, _, rfl, .inl ⟨sqL_of hB1, fun PF nPF => ?_⟩⟩
      generalize hU2 : upd H5 PF _ = H6
      obtain ⟨s6, hPF⟩ := new_of0 nPF hU2
      have hO6 := s6 _ _ (s5 _ _ hO)
      walk_at "go"
      intro B2 nB2
      generalize hU3 : upd H6 B2 _ = H7
      obtain ⟨s7, hB2⟩ := new_of0 nB2 hU3
      rw [cutV_from (by rw [nV_len, rw_len]; omega), nV_drop] at hB2
      refine ⟨B2, _, rfl, .inl ⟨sqL_of hB2, fun PR nPR => ?_⟩⟩
      generalize hU4 : upd H7 PR _ = H8
      obtain ⟨s8, hPR⟩ := new_of0 nPR hU4
      have S8 := ((s5.trans s6).trans s7).trans s8
      have W8 := W4.same S8
      have R8 := R4.same S8
      have aO8 := aO.same S8
      have aF8 : Ac w g c H8 PF (.tup (nV (rw_ m fs bs h))) := W8.tup (s8 _ _ (s7 _ _ hPF))
      have aR8 : Ac w g c H8 PR (.tup (nV ((rw_ m fs bs (h + t)).drop h))) := W8.tup hPR
      clear s5 s6 s7 s8 S8 hB1 hB2 hO6 aO W4 R4 hPF hPR nB1 nB2 nPF nPR hU1 hU2 hU3 hU4 hp hO
      walk_at "go"
      refine ⟨w, g, c, _, rfl, W8, by omega, by omega, fun d1 H9 s9 W9 d10 d11 => ?_⟩
      walk_at "go"
      refine ⟨w, g, c, _, rfl, W9, by omega, by omega, fun d2 H10 s10 W10 d20 d21 => ?_⟩
      walk_at "go"
      intro l1 nl1
      generalize hU1 : upd H10 l1 _ = H11
      obtain ⟨s11, W11, al1⟩ := new_ofC W10 nl1 hU1
      refine ⟨w, g, c, l1, _, rfl, W11, al1, by simp, by simp, fun x H12 mx s12 W12 => ?_⟩
      obtain ⟨n, n0, n1, rfl⟩ : ∃ n : Nat, 100 ≤ n ∧ n ≤ 5020 ∧ x = .int (n : Nat) := by
        have mx2 : x = V.int 5000 ∨ x = V.int 4999 ∨ x = V.int (5000 - d1) ∨ x = V.int (100 + d2) ∨ x = V.int 5001 ∨ x = V.int 5020 := by simpa using mx
        rcases mx2 with rfl | rfl | rfl | rfl | rfl | rfl
        · exact ⟨5000, by decide, by decide, rfl⟩
        · exact ⟨4999, by decide, by decide, rfl⟩
        · exact ⟨(5000 - d1).toNat, by omega, by omega, congrArg V.int (by omega)⟩
        · exact ⟨(100 + d2).toNat, by omega, by omega, congrArg V.int (by omega)⟩
        · exact ⟨5001, by decide, by decide, rfl⟩
        · exact ⟨5020, by decide, by decide, rfl⟩
      have S12 : Go w g H8 H12 := ((s9.trans s10).trans (Go.of s11)).trans s12
      have R12 := R8.go W8 S12
      have aO12 := aO8.go S12
      have aF12 := aF8.go S12
      have aR12 := aR8.go S12
      clear s9 s10 s11 s12 S12 R8 aO8 aF8 aR8 W8 W9 W10 W11 al1 mx nl1 hU1
      have lR : (nV ((rw_ m fs bs (h + t)).drop h)).length = t := by rw [nV_len, List.length_drop, rw_len]; omega
      walk_at "go"
      refine ⟨r, af, ab, m, fs, bs, n, rfl, R12, by omega, fun p1 H13 s13 hp1 => ?_⟩
      walk_at "go"
      have l9 := rw_le9 rl n
      have ll : (rw_ m fs bs n).length ≤ 40000 := by rw [rw_len]; omega
      refine repr_dg hp1 l9 ll ?_
      have hF13 := s13 _ _ aF12.at_
      have hR13 := s13 _ _ aR12.at_
      walk_at "go"
      have ek : (n : Int) / (((nV ((rw_ m fs bs (h + t)).drop h)).length : Nat) : Int) + 1 = ((n / t + 1 : Nat) : Int) := by
        rw [lR, Int.natCast_add, Int.natCast_ediv]
        rfl
      have kt : (n / t + 1) * t ≤ 1000000 := by
        have hd := Nat.div_add_mod n t
        have e1 : (n / t + 1) * t = t * (n / t) + t := by rw [Nat.succ_mul, Nat.mul_comm]
        omega
      have kd := Nat.div_le_self n t
      have kd := Nat.div_le_self n t
      refine rep_all_eq (congrArg V.int ek) hR13 (fun z => by rw [z] at lR; simp at lR; omega) (Nat.le_add_left 1 _) (by omega) (by rw [lR]; exact kt) fun p2 H14 s14 hp2 => ?_
      rw [nV_rep] at hp2
      refine cat_all (s14 _ _ hF13) hp2 (Nat.le_trans (by rw [nV_len, nV_len, rw_len, repN_length, List.length_drop, rw_len, show h + t - h = t by omega]; omega : _ ≤ 2000000) (by decide)) fun p3 H15 s15 hp3 => ?_
      iterate 2 (walk_at "go1")
      have er : nV (rw_ m fs bs h) ++ nV (repN (n / t + 1) ((rw_ m fs bs (h + t)).drop h)) = nV (rw_ m fs bs h ++ repN (n / t + 1) ((rw_ m fs bs (h + t)).drop h)) := List.map_append.symm
      rw [er] at hp3
      refine sl_all hp3 fun p4 H16 s16 hp4 => ?_
      rw [cutV_to, nV_take, row_again rd] at hp4
      walk_at "go"
      refine repr_dg hp4 l9 ll ?_
      walk_at "go"
      refine ifDn (fun c => absurd rfl c) (fun _ => ?_)
      have S16 := ((s13.trans s14).trans s15).trans s16
      have W16 := W12.same S16
      have R16 := R12.same S16
      have aO16 := aO12.same S16
      have aR16 := aR12.same S16
      clear s13 s14 s15 s16 S16 W12 R12 aO12 aR12 aF12 hp1 hp2 hp3 hp4 hF13 hR13 er kt ek kd l9 ll n0 n1
      have e18 : (10 : Int) ^ Int.toNat 18 = 1000000000000000000 := by decide
      have hO16 := aO16.at_
      have lO : (nV (rw_ m fs bs (h + t))).length = h + t := by rw [nV_len, rw_len]
      walk_at "go"
      refine ⟨w, g, c, 10 ^ Int.toNat 18, rfl, W16, by decide, fun f H17 s17 W17 f0 f1 => ?_⟩
      have aO17 := aO16.go s17
      have hO17 := aO17.at_
      walk_at "go"
      intro l3 nl3
      generalize hU3 : upd H17 l3 _ = H18
      obtain ⟨s18, W18, al3⟩ := new_ofC W17 nl3 hU3
      refine ⟨w, g, c, l3, _, rfl, W18, al3, by simp, by simp, fun x H19 mx s19 W19 => ?_⟩
      obtain ⟨n', hn', rfl⟩ : ∃ n' : Nat, n' < 2 ^ 100 ∧ x = .int (n' : Nat) := by
        rw [lO] at mx
        have mx2 : x = V.int ((10 : Int) ^ Int.toNat 18) ∨ x = V.int f ∨ x = V.int 5000 ∨ x = V.int ((h + t : Nat) : Int) ∨ x = V.int (h : Int) := by simpa using mx
        rw [e18] at mx2 f1
        rcases mx2 with rfl | rfl | rfl | rfl | rfl
        · exact ⟨1000000000000000000, by decide, rfl⟩
        · exact ⟨f.toNat, by omega, congrArg V.int (by omega)⟩
        · exact ⟨5000, by decide, rfl⟩
        · exact ⟨h + t, by omega, rfl⟩
        · exact ⟨h, by omega, rfl⟩
      have S19 : Go w g H16 H19 := (s17.trans (Go.of s18)).trans s19
      have R19 := R16.go W16 S19
      have hO19 := (aO16.go S19).at_
      have hR19 := (aR16.go S19).at_
      clear s17 s18 s19 S19 W16 W17 W18 R16 aO16 aR16 aO17 hO17 hO16 al3 mx nl3 hU3
      have xm := x_lt rl n'
      walk_at "go"
      refine ⟨fun v H' => v = .int (xv m fs bs n' : Nat) ∧ H' = H19, ?_, ?_⟩
      · walk_at "go"
        refine ifD (fun lt => ?_) (fun ge => ?_)
        · rw [lO] at lt
          walk_at "go"
          refine go_ixL hO19 (j := n') (nV_at (rw_get (by omega))) ?_
          exact ⟨rfl, rfl⟩
        · rw [lO] at ge
          have e1 : ((n' : Int) - (h : Int)) % (((nV ((rw_ m fs bs (h + t)).drop h)).length : Nat) : Int) = (((n' - h) % t : Nat) : Int) := by
            rw [lR, show (n' : Int) - (h : Int) = ((n' - h : Nat) : Int) by omega, ← Int.natCast_emod]
          have mt := Nat.mod_lt (n' - h) (show 0 < t from t1)
          walk_at "go"
          refine ⟨PR, _, _, .int (xv m fs bs n' : Nat), rfl, congrArg V.int e1, sqT_of hR19, ?_, rfl, rfl⟩
          refine atI_nat (nV_at ?_)
          rw [List.getElem?_drop, rw_get (by omega), rd.far (by omega)]
      · rintro v H' ⟨rfl, rfl⟩
        walk_at "go"
        refine ⟨r, af, ab, m, fs, bs, n', rfl, R19, fun H20 s20 => ?_⟩
        walk_at "go"
        refine ⟨.inr ⟨_, rfl, log_small (by omega) (by omega)⟩, ?_⟩
        walk_at "go"
        refine ⟨.inr ⟨_, rfl, log_small (by omega) (by omega)⟩, ?_⟩
        walk_at "go"
        rw [decide_eq_true rfl]
        refine ifT ?_
        walk_at "go"
        refine ⟨r, af, ab, m, fs, bs, n', rfl, R19.same s20, hn', fun H21 s21 => ?_⟩
        walk_at "go"
        rw [decide_eq_true rfl]
        exact q H21
end
theorem all_mk {l : PySem.W.OpenLaw} {w : World} {K : PySem.W.Frag} {h : Heap} {mg : Str → Option Value} {fa : Addr} (X : K.In h) (G : h.Ns mainGlobals mg) (hfa : mg "law" = some (.ref fa))
    {f_sum_ahead : Addr} {od_sum_ahead an_sum_ahead : Option Addr} {sl_sum_ahead : Array (Option Value)} {oc_sum_ahead kV_sum_ahead dc_sum_ahead pm_sum_ahead cd_sum_ahead ct_sum_ahead : Value}
    {f_values : Addr} {od_values an_values : Option Addr} {sl_values : Array (Option Value)} {oc_values kV_values dc_values pm_values cd_values ct_values : Value}
    {f_value_at : Addr} {od_value_at an_value_at : Option Addr} {sl_value_at : Array (Option Value)} {oc_value_at kV_value_at dc_value_at pm_value_at cd_value_at ct_value_at : Value}
    {f_round_of : Addr} {od_round_of an_round_of : Option Addr} {sl_round_of : Array (Option Value)} {oc_round_of kV_round_of dc_round_of pm_round_of cd_round_of ct_round_of : Value}
    {f_deck : Addr} {od_deck an_deck : Option Addr} {sl_deck : Array (Option Value)} {oc_deck kV_deck dc_deck pm_deck cd_deck ct_deck : Value}
    {f_draw : Addr} {od_draw an_draw : Option Addr} {sl_draw : Array (Option Value)} {oc_draw kV_draw dc_draw pm_draw cd_draw ct_draw : Value}
    {f_pick : Addr} {od_pick an_pick : Option Addr} {sl_pick : Array (Option Value)} {oc_pick kV_pick dc_pick pm_pick cd_pick ct_pick : Value}
    {f_far : Addr} {od_far an_far : Option Addr} {sl_far : Array (Option Value)} {oc_far kV_far dc_far pm_far cd_far ct_far : Value}
    {f_rule : Addr} {od_rule an_rule : Option Addr} {sl_rule : Array (Option Value)} {oc_rule kV_rule dc_rule pm_rule cd_rule ct_rule : Value}
    {f_row : Addr} {od_row an_row : Option Addr} {sl_row : Array (Option Value)} {oc_row kV_row dc_row pm_row cd_row ct_row : Value}
    {f_going : Addr} {od_going an_going : Option Addr} {sl_going : Array (Option Value)} {oc_going kV_going dc_going pm_going cd_going ct_going : Value}
    {f_far_value : Addr} {od_far_value an_far_value : Option Addr} {sl_far_value : Array (Option Value)} {oc_far_value kV_far_value dc_far_value pm_far_value cd_far_value ct_far_value : Value}
    {f_law : Addr} {od_law an_law : Option Addr} {sl_law : Array (Option Value)} {oc_law kV_law dc_law pm_law cd_law ct_law : Value}
    (a_sum_ahead : PySem.W.nsIn K mainGlobals "sum_ahead" = some (some (.ref f_sum_ahead)))
    (l_sum_ahead : K.lookup f_sum_ahead = some ⟨oc_sum_ahead, od_sum_ahead, .func (PySem.W.fnOf "sum_ahead" "sum_ahead" (defArgs s_sum_ahead) (defBody s_sum_ahead) (defScope s_sum_ahead) .none kV_sum_ahead dc_sum_ahead pm_sum_ahead an_sum_ahead cd_sum_ahead ct_sum_ahead), sl_sum_ahead⟩)
    (c_sum_ahead : PySem.W.codeIn K cd_sum_ahead "sum_ahead" = true) (k_sum_ahead : PySem.W.keepIn K (.ref f_sum_ahead) = true)
    (a_values : PySem.W.nsIn K mainGlobals "values" = some (some (.ref f_values)))
    (l_values : K.lookup f_values = some ⟨oc_values, od_values, .func (PySem.W.fnOf "values" "values" (defArgs s_values) (defBody s_values) (defScope s_values) .none kV_values dc_values pm_values an_values cd_values ct_values), sl_values⟩)
    (c_values : PySem.W.codeIn K cd_values "values" = true) (k_values : PySem.W.keepIn K (.ref f_values) = true)
    (a_value_at : PySem.W.nsIn K mainGlobals "value_at" = some (some (.ref f_value_at)))
    (l_value_at : K.lookup f_value_at = some ⟨oc_value_at, od_value_at, .func (PySem.W.fnOf "value_at" "value_at" (defArgs s_value_at) (defBody s_value_at) (defScope s_value_at) .none kV_value_at dc_value_at pm_value_at an_value_at cd_value_at ct_value_at), sl_value_at⟩)
    (c_value_at : PySem.W.codeIn K cd_value_at "value_at" = true) (k_value_at : PySem.W.keepIn K (.ref f_value_at) = true)
    (a_round_of : PySem.W.nsIn K mainGlobals "round_of" = some (some (.ref f_round_of)))
    (l_round_of : K.lookup f_round_of = some ⟨oc_round_of, od_round_of, .func (PySem.W.fnOf "round_of" "round_of" (defArgs s_round_of) (defBody s_round_of) (defScope s_round_of) .none kV_round_of dc_round_of pm_round_of an_round_of cd_round_of ct_round_of), sl_round_of⟩)
    (c_round_of : PySem.W.codeIn K cd_round_of "round_of" = true) (k_round_of : PySem.W.keepIn K (.ref f_round_of) = true)
    (a_deck : PySem.W.nsIn K mainGlobals "_law_deck" = some (some (.ref f_deck)))
    (l_deck : K.lookup f_deck = some ⟨oc_deck, od_deck, .func (PySem.W.fnOf "_law_deck" "_law_deck" (defArgs s_deck) (defBody s_deck) (defScope s_deck) .none kV_deck dc_deck pm_deck an_deck cd_deck ct_deck), sl_deck⟩)
    (c_deck : PySem.W.codeIn K cd_deck "_law_deck" = true) (k_deck : PySem.W.keepIn K (.ref f_deck) = true)
    (a_draw : PySem.W.nsIn K mainGlobals "_law_draw" = some (some (.ref f_draw)))
    (l_draw : K.lookup f_draw = some ⟨oc_draw, od_draw, .func (PySem.W.fnOf "_law_draw" "_law_draw" (defArgs s_draw) (defBody s_draw) (defScope s_draw) .none kV_draw dc_draw pm_draw an_draw cd_draw ct_draw), sl_draw⟩)
    (c_draw : PySem.W.codeIn K cd_draw "_law_draw" = true) (k_draw : PySem.W.keepIn K (.ref f_draw) = true)
    (a_pick : PySem.W.nsIn K mainGlobals "_law_pick" = some (some (.ref f_pick)))
    (l_pick : K.lookup f_pick = some ⟨oc_pick, od_pick, .func (PySem.W.fnOf "_law_pick" "_law_pick" (defArgs s_pick) (defBody s_pick) (defScope s_pick) .none kV_pick dc_pick pm_pick an_pick cd_pick ct_pick), sl_pick⟩)
    (c_pick : PySem.W.codeIn K cd_pick "_law_pick" = true) (k_pick : PySem.W.keepIn K (.ref f_pick) = true)
    (a_far : PySem.W.nsIn K mainGlobals "_law_far" = some (some (.ref f_far)))
    (l_far : K.lookup f_far = some ⟨oc_far, od_far, .func (PySem.W.fnOf "_law_far" "_law_far" (defArgs s_far) (defBody s_far) (defScope s_far) .none kV_far dc_far pm_far an_far cd_far ct_far), sl_far⟩)
    (c_far : PySem.W.codeIn K cd_far "_law_far" = true) (k_far : PySem.W.keepIn K (.ref f_far) = true)
    (a_rule : PySem.W.nsIn K mainGlobals "_law_rule" = some (some (.ref f_rule)))
    (l_rule : K.lookup f_rule = some ⟨oc_rule, od_rule, .func (PySem.W.fnOf "_law_rule" "_law_rule" (defArgs s_rule) (defBody s_rule) (defScope s_rule) .none kV_rule dc_rule pm_rule an_rule cd_rule ct_rule), sl_rule⟩)
    (c_rule : PySem.W.codeIn K cd_rule "_law_rule" = true) (k_rule : PySem.W.keepIn K (.ref f_rule) = true)
    (a_row : PySem.W.nsIn K mainGlobals "_law_row" = some (some (.ref f_row)))
    (l_row : K.lookup f_row = some ⟨oc_row, od_row, .func (PySem.W.fnOf "_law_row" "_law_row" (defArgs s_row) (defBody s_row) (defScope s_row) .none kV_row dc_row pm_row an_row cd_row ct_row), sl_row⟩)
    (c_row : PySem.W.codeIn K cd_row "_law_row" = true) (k_row : PySem.W.keepIn K (.ref f_row) = true)
    (a_going : PySem.W.nsIn K mainGlobals "_law_going" = some (some (.ref f_going)))
    (l_going : K.lookup f_going = some ⟨oc_going, od_going, .func (PySem.W.fnOf "_law_going" "_law_going" (defArgs s_going) (defBody s_going) (defScope s_going) .none kV_going dc_going pm_going an_going cd_going ct_going), sl_going⟩)
    (c_going : PySem.W.codeIn K cd_going "_law_going" = true) (k_going : PySem.W.keepIn K (.ref f_going) = true)
    (a_far_value : PySem.W.nsIn K mainGlobals "_law_far_value" = some (some (.ref f_far_value)))
    (l_far_value : K.lookup f_far_value = some ⟨oc_far_value, od_far_value, .func (PySem.W.fnOf "_law_far_value" "_law_far_value" (defArgs s_far_value) (defBody s_far_value) (defScope s_far_value) .none kV_far_value dc_far_value pm_far_value an_far_value cd_far_value ct_far_value), sl_far_value⟩)
    (c_far_value : PySem.W.codeIn K cd_far_value "_law_far_value" = true) (k_far_value : PySem.W.keepIn K (.ref f_far_value) = true)
    (a_law : PySem.W.nsIn K mainGlobals "law" = some (some (.ref f_law)))
    (l_law : K.lookup f_law = some ⟨oc_law, od_law, .func (PySem.W.fnOf "law" "law" (defArgs s_law) (defBody s_law) (defScope s_law) .none kV_law dc_law pm_law an_law cd_law ct_law), sl_law⟩)
    (c_law : PySem.W.codeIn K cd_law "law" = true) (k_law : PySem.W.keepIn K (.ref f_law) = true)
    (z_abs : PySem.W.nsIn K mainGlobals "abs" = some none)
    (z_enumerate : PySem.W.nsIn K mainGlobals "enumerate" = some none)
    (z_int : PySem.W.nsIn K mainGlobals "int" = some none)
    (z_len : PySem.W.nsIn K mainGlobals "len" = some none)
    (z_list : PySem.W.nsIn K mainGlobals "list" = some none)
    (z_range : PySem.W.nsIn K mainGlobals "range" = some none)
    (z_repr : PySem.W.nsIn K mainGlobals "repr" = some none)
    (z_sum : PySem.W.nsIn K mainGlobals "sum" = some none)
    (z_tuple : PySem.W.nsIn K mainGlobals "tuple" = some none)
    (z_zip : PySem.W.nsIn K mainGlobals "zip" = some none)
    : ∃ fd : FuncData, (∀ (s : Shared) (v : Value), BindsTo s fd ⟨[v], []⟩ [("_law_script", v)]) ∧ ∀ base : Heap, K.In base → base.Ns mainGlobals mg → FnG l.prog w K mg base 4 fa fd ["_law_script"] (spLaw K) := by
  have e := hfa.symm.trans (PySem.W.mg_of X G a_law)
  cases e
  let T : Tp K mg := {
    a_sum_ahead := f_sum_ahead, d_sum_ahead := _, F_sum_ahead := fun_mk (st := s_sum_ahead) l_sum_ahead c_sum_ahead k_sum_ahead, g_sum_ahead := PySem.W.mg_of X G a_sum_ahead,
    a_values := f_values, d_values := _, F_values := fun_mk (st := s_values) l_values c_values k_values, g_values := PySem.W.mg_of X G a_values,
    a_value_at := f_value_at, d_value_at := _, F_value_at := fun_mk (st := s_value_at) l_value_at c_value_at k_value_at, g_value_at := PySem.W.mg_of X G a_value_at,
    a_round_of := f_round_of, d_round_of := _, F_round_of := fun_mk (st := s_round_of) l_round_of c_round_of k_round_of, g_round_of := PySem.W.mg_of X G a_round_of,
    a_deck := f_deck, d_deck := _, F_deck := fun_mk (st := s_deck) l_deck c_deck k_deck, g_deck := PySem.W.mg_of X G a_deck,
    a_draw := f_draw, d_draw := _, F_draw := fun_mk (st := s_draw) l_draw c_draw k_draw, g_draw := PySem.W.mg_of X G a_draw,
    a_pick := f_pick, d_pick := _, F_pick := fun_mk (st := s_pick) l_pick c_pick k_pick, g_pick := PySem.W.mg_of X G a_pick,
    a_far := f_far, d_far := _, F_far := fun_mk (st := s_far) l_far c_far k_far, g_far := PySem.W.mg_of X G a_far,
    a_rule := f_rule, d_rule := _, F_rule := fun_mk (st := s_rule) l_rule c_rule k_rule, g_rule := PySem.W.mg_of X G a_rule,
    a_row := f_row, d_row := _, F_row := fun_mk (st := s_row) l_row c_row k_row, g_row := PySem.W.mg_of X G a_row,
    a_going := f_going, d_going := _, F_going := fun_mk (st := s_going) l_going c_going k_going, g_going := PySem.W.mg_of X G a_going,
    a_far_value := f_far_value, d_far_value := _, F_far_value := fun_mk (st := s_far_value) l_far_value c_far_value k_far_value, g_far_value := PySem.W.mg_of X G a_far_value,
    a_law := fa, d_law := _, F_law := fun_mk (st := s_law) l_law c_law k_law, g_law := PySem.W.mg_of X G a_law,
    n_abs := PySem.W.mg_none_of X G z_abs,
    n_enumerate := PySem.W.mg_none_of X G z_enumerate,
    n_int := PySem.W.mg_none_of X G z_int,
    n_len := PySem.W.mg_none_of X G z_len,
    n_list := PySem.W.mg_none_of X G z_list,
    n_range := PySem.W.mg_none_of X G z_range,
    n_repr := PySem.W.mg_none_of X G z_repr,
    n_sum := PySem.W.mg_none_of X G z_sum,
    n_tuple := PySem.W.mg_none_of X G z_tuple,
    n_zip := PySem.W.mg_none_of X G z_zip }
  exact ⟨T.d_law, fun s v => .of_eq rfl, fun base _ _ => ok_law T⟩
end G68
open PySem PySem.W PyProof.Rows
set_option maxHeartbeats 0 in
theorem PySem.Challenge.cw_leastmakers_k68_rows_far_out_holds : PySem.Challenge.rw_leastmakers_k68_rows_far_out.Holds := by
  w_on; o_law; k_head; (case hw => w_witness2)
  k_fill
  refine G1.walkG (l := PySem.Challenge.rw_leastmakers_k68_rows_far_out) (n := 63) (k := 4) (x := "_law_script") (sp := fun K => G68.spLaw K) rfl (by decide) rfl ⟨rfl, by decide, by decide⟩ (fun w h Y => PySem.W.kIn_of Y) ?F (fun K H a ns hl _ hS => ⟨a, ns, rfl, hS, hl, fun _ => rfl⟩)
  case F =>
    intro w mg fa h KX G hmg
    refine' G68.all_mk KX G hmg ?a_sum_ahead ?l_sum_ahead ?c_sum_ahead ?k_sum_ahead ?a_values ?l_values ?c_values ?k_values ?a_value_at ?l_value_at ?c_value_at ?k_value_at ?a_round_of ?l_round_of ?c_round_of ?k_round_of ?a_deck ?l_deck ?c_deck ?k_deck ?a_draw ?l_draw ?c_draw ?k_draw ?a_pick ?l_pick ?c_pick ?k_pick ?a_far ?l_far ?c_far ?k_far ?a_rule ?l_rule ?c_rule ?k_rule ?a_row ?l_row ?c_row ?k_row ?a_going ?l_going ?c_going ?k_going ?a_far_value ?l_far_value ?c_far_value ?k_far_value ?a_law ?l_law ?c_law ?k_law ?z_abs ?z_enumerate ?z_int ?z_len ?z_list ?z_range ?z_repr ?z_sum ?z_tuple ?z_zip
    (case a_sum_ahead => k_is); (case l_sum_ahead => k_is); (case c_sum_ahead => k_is); (case k_sum_ahead => k_is); (case a_values => k_is); (case l_values => k_is)
    (case c_values => k_is); (case k_values => k_is); (case a_value_at => k_is); (case l_value_at => k_is); (case c_value_at => k_is); (case k_value_at => k_is)
    (case a_round_of => k_is); (case l_round_of => k_is); (case c_round_of => k_is); (case k_round_of => k_is); (case a_deck => k_is); (case l_deck => k_is)
    (case c_deck => k_is); (case k_deck => k_is); (case a_draw => k_is); (case l_draw => k_is); (case c_draw => k_is); (case k_draw => k_is)
    (case a_pick => k_is); (case l_pick => k_is); (case c_pick => k_is); (case k_pick => k_is); (case a_far => k_is); (case l_far => k_is)
    (case c_far => k_is); (case k_far => k_is); (case a_rule => k_is); (case l_rule => k_is); (case c_rule => k_is); (case k_rule => k_is)
    (case a_row => k_is); (case l_row => k_is); (case c_row => k_is); (case k_row => k_is); (case a_going => k_is); (case l_going => k_is)
    (case c_going => k_is); (case k_going => k_is); (case a_far_value => k_is); (case l_far_value => k_is); (case c_far_value => k_is); (case k_far_value => k_is)
    (case a_law => k_is); (case l_law => k_is); (case c_law => k_is); (case k_law => k_is); (case z_abs => k_is); (case z_enumerate => k_is)
    (case z_int => k_is); (case z_len => k_is); (case z_list => k_is); (case z_range => k_is); (case z_repr => k_is); (case z_sum => k_is)
    (case z_tuple => k_is); (case z_zip => k_is)
