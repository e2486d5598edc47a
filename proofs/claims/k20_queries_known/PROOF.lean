import PyProof.Rows.All
import Wide.All
import OpenK.AllK
import Wide.FinOn
import HandS.ForMost
import HandS.IsInst
import HandS.TupAny
import HandS.StrMore
import HandS.Wide
import KE.KEqNest
import PyProof.ListStr
import HandS.Ends
import HandS.Words
import HandS.More
import HandS.TupMul
import HandS.NoneIn
import HandS.Strs
import HandS.SetBool
import KE.GoesEnum
import HandS.Style
import HandS.TupLe
import KE.KeyNested
import HandS.DictComp
import HandS.Conv
import KE.GoesComp2
import PyProof.ReprBulk
import PySem.Challenge.RW_leancatalog_k20_queries_known
set_option Elab.async false
set_option linter.all false
set_option maxRecDepth 100000
set_option maxHeartbeats 4000000
/-! DLa -/
/-! DL: values as data; a def of the text is a plain function over data and a store of lists. -/
namespace DL
open PySem PySem.Spec PyProof.Rows L2
variable {F : Hp}

/-- data: frozen lists are plain; a list that may still change is a place in the store -/
inductive D where
  | non | bl (b : Bool) | int (i : Int) | str (s : Str) | tup (xs : List D) | lst (xs : List D) | rol (xs : List D) | dct (ks : List Key) (vs : List D) | loc (n : Nat)
  deriving Inhabited

mutual
inductive Rp (K : PySem.W.Frag) (μ : List Addr) (G : Hp) : V → D → Prop
  | non : Rp K μ G .non .non
  | bl (b : Bool) : Rp K μ G (.bl b) (.bl b)
  | int (i : Int) : Rp K μ G (.int i) (.int i)
  | str (x : Str) : Rp K μ G (.str x) (.str x)
  | tup {a : Addr} {xs : List V} {ds : List D} : SqT K G a xs → RpA K μ G xs ds → Rp K μ G (.ref a) (.tup ds)
  | lst {a : Addr} {xs : List V} {ds : List D} : G a = some (.lst xs) → RpA K μ G xs ds → Rp K μ G (.ref a) (.lst ds)
  | rol {a : Addr} {xs : List V} {ds : List D} : SqL K G a xs → RpA K μ G xs ds → Rp K μ G (.ref a) (.rol ds)
  | dct {a : Addr} {ks : List Key} {xs : List V} {ds : List D} : G a = some (.dK (ks.zip xs)) → RpA K μ G xs ds → ks.length = xs.length → Rp K μ G (.ref a) (.dct ks ds)
  | loc {a : Addr} {n : Nat} : μ[n]? = some a → Rp K μ G (.ref a) (.loc n)
inductive RpA (K : PySem.W.Frag) (μ : List Addr) (G : Hp) : List V → List D → Prop
  | nil : RpA K μ G [] []
  | cons {v : V} {d : D} {vs : List V} {ds : List D} : Rp K μ G v d → RpA K μ G vs ds → RpA K μ G (v :: vs) (d :: ds)
end

/-- all that was is as it was -/
def Ex (G G' : Hp) : Prop := ∀ a o, G a = some o → G' a = some o
theorem Ex.refl (G : Hp) : Ex G G := fun _ _ h => h
theorem Ex.trans {A B C : Hp} (x : Ex A B) (y : Ex B C) : Ex A C := fun a o h => y a o (x a o h)
theorem Ex.new {G : Hp} {p : Addr} {o : HO} (h : G p = none) : Ex G (upd G p o) := fun a u e => by
  rw [upd_ne (ne_of_none e h)]
  exact e
theorem Ex.off {G H : Hp} {p : Addr} {o : HO} (e : Ex G H) (h : G p = none) : Ex G (upd H p o) := fun a u x => by
  rw [upd_ne (ne_of_none x h)]
  exact e a u x
theorem Ex.rd {G H : Hp} {a : Addr} {u : HO} (e : Ex G H) (h : Rd G a u) : Rd H a u := h.elim (fun h => .inl (e a _ h)) fun ⟨o, h⟩ => .inr ⟨o, e a _ h⟩
theorem Ex.sl {K : PySem.W.Frag} {G H : Hp} {a : Addr} {xs : List V} (e : Ex G H) (h : SqL K G a xs) : SqL K H a xs := h.elim (fun h => .inl (e.rd h)) .inr
theorem Ex.st {K : PySem.W.Frag} {G H : Hp} {a : Addr} {xs : List V} (e : Ex G H) (h : SqT K G a xs) : SqT K H a xs := h.elim (fun h => .inl (e.rd h)) .inr
theorem Ex.back {G H : Hp} {p : Addr} (e : Ex G H) (h : H p = none) : G p = none := by
  cases q : G p with
  | none => rfl
  | some u =>
    rw [e p u q] at h
    cases h

abbrev Pf (μ μ' : List Addr) : Prop := ∃ t, μ' = μ ++ t
theorem Pf.refl (μ : List Addr) : Pf μ μ := ⟨[], (List.append_nil μ).symm⟩
theorem Pf.trans {a b c : List Addr} : Pf a b → Pf b c → Pf a c := fun ⟨t, x⟩ ⟨u, y⟩ => ⟨t ++ u, by rw [y, x, List.append_assoc]⟩
theorem Pf.get {a b : List Addr} {n : Nat} {x : Addr} (p : Pf a b) (h : a[n]? = some x) : b[n]? = some x := by
  obtain ⟨t, rfl⟩ := p
  obtain ⟨hl, _⟩ := List.getElem?_eq_some_iff.mp h
  rw [List.getElem?_append_left hl]
  exact h

mutual
theorem Rp.mono {K : PySem.W.Frag} {μ μ' : List Addr} {G G' : Hp} (p : Pf μ μ') (e : Ex G G') : ∀ {v : V} {d : D}, Rp K μ G v d → Rp K μ' G' v d
  | _, _, .non => .non
  | _, _, .bl b => .bl b
  | _, _, .int i => .int i
  | _, _, .str x => .str x
  | _, _, .tup h a => .tup (e.st h) (RpA.mono p e a)
  | _, _, .lst h a => .lst (e _ _ h) (RpA.mono p e a)
  | _, _, .rol h a => .rol (e.sl h) (RpA.mono p e a)
  | _, _, .dct h a l => .dct (e _ _ h) (RpA.mono p e a) l
  | _, _, .loc h => .loc (p.get h)
theorem RpA.mono {K : PySem.W.Frag} {μ μ' : List Addr} {G G' : Hp} (p : Pf μ μ') (e : Ex G G') : ∀ {vs : List V} {ds : List D}, RpA K μ G vs ds → RpA K μ' G' vs ds
  | _, _, .nil => .nil
  | _, _, .cons h t => .cons (Rp.mono p e h) (RpA.mono p e t)
end
theorem RpA.len {K : PySem.W.Frag} {μ : List Addr} {G : Hp} : ∀ {vs : List V} {ds : List D}, RpA K μ G vs ds → vs.length = ds.length
  | _, _, .nil => rfl
  | _, _, .cons _ t => by rw [List.length_cons, List.length_cons, RpA.len t]
theorem RpA.app {K : PySem.W.Frag} {μ : List Addr} {G : Hp} : ∀ {vs ws : List V} {ds es : List D}, RpA K μ G vs ds → RpA K μ G ws es → RpA K μ G (vs ++ ws) (ds ++ es)
  | _, _, _, _, .nil, q => q
  | _, _, _, _, .cons h t, q => .cons h (RpA.app t q)
theorem RpA.get {K : PySem.W.Frag} {μ : List Addr} {G : Hp} : ∀ {vs : List V} {ds : List D} {i : Nat} {d : D}, RpA K μ G vs ds → ds[i]? = some d → ∃ v, vs[i]? = some v ∧ Rp K μ G v d
  | _, _, i, _, .nil, h => by simp at h
  | _, _, 0, _, .cons h t, q => ⟨_, rfl, by cases (show some _ = some _ from q); exact h⟩
  | _, _, i + 1, _, .cons h t, q => RpA.get (i := i) t (by simpa using q)
theorem RpA.getV {K : PySem.W.Frag} {μ : List Addr} {G : Hp} : ∀ {vs : List V} {ds : List D} {i : Nat} {v : V}, RpA K μ G vs ds → vs[i]? = some v → ∃ d, ds[i]? = some d ∧ Rp K μ G v d
  | _, _, i, _, .nil, h => by simp at h
  | _, _, 0, _, .cons h t, q => ⟨_, rfl, by cases (show some _ = some _ from q); exact h⟩
  | _, _, i + 1, _, .cons h t, q => RpA.getV (i := i) t (by simpa using q)
theorem RpA.take {K : PySem.W.Frag} {μ : List Addr} {G : Hp} : ∀ {vs : List V} {ds : List D} (n : Nat), RpA K μ G vs ds → RpA K μ G (vs.take n) (ds.take n)
  | _, _, 0, _ => .nil
  | _, _, _ + 1, .nil => .nil
  | _, _, n + 1, .cons h t => .cons h (RpA.take n t)
theorem RpA.drop {K : PySem.W.Frag} {μ : List Addr} {G : Hp} : ∀ {vs : List V} {ds : List D} (n : Nat), RpA K μ G vs ds → RpA K μ G (vs.drop n) (ds.drop n)
  | _, _, 0, h => h
  | _, _, _ + 1, .nil => .nil
  | _, _, n + 1, .cons _ t => RpA.drop n t
theorem RpA.set {K : PySem.W.Frag} {μ : List Addr} {G : Hp} {v : V} {d : D} (r : Rp K μ G v d) : ∀ {vs : List V} {ds : List D} (n : Nat), RpA K μ G vs ds → RpA K μ G (vs.set n v) (ds.set n d)
  | _, _, _, .nil => .nil
  | _, _, 0, .cons _ t => .cons r t
  | _, _, n + 1, .cons h t => .cons h (RpA.set r n t)
theorem RpA.ints {K : PySem.W.Frag} {μ : List Addr} {G : Hp} : ∀ (ns : List Int), RpA K μ G (ns.map V.int) (ns.map D.int)
  | [] => .nil
  | _ :: r => .cons (.int _) (RpA.ints r)
theorem RpA.rep {K : PySem.W.Frag} {μ : List Addr} {G : Hp} {vs : List V} {ds : List D} (h : RpA K μ G vs ds) : ∀ n : Nat, RpA K μ G (List.replicate n vs).flatten (List.replicate n ds).flatten
  | 0 => .nil
  | n + 1 => by
    rw [List.replicate_succ, List.replicate_succ, List.flatten_cons, List.flatten_cons]
    exact h.app (RpA.rep h n)

/-- the store: lists that may change; none: frozen since -/
abbrev Sto := List (Option (List D))
structure Rel (K : PySem.W.Frag) (F : Hp) (μ : List Addr) (S : Sto) (H G : Hp) : Prop where
  sub : Ex G H
  len : μ.length = S.length
  cell : ∀ (n : Nat) (c : List D), S[n]? = some (some c) → ∃ a vs, μ[n]? = some a ∧ H a = some (.lst vs) ∧ RpA K μ G vs c ∧ G a = none
  inj : ∀ (n m : Nat) (a : Addr), μ[n]? = some a → μ[m]? = some a → n = m
  trk : ∀ a ∈ μ, H a ≠ none
  frm : Ex F H
  frd : ∀ a o, F a = some o → G a = none ∧ a ∉ μ
theorem Rel.fresh {K : PySem.W.Frag} {μ : List Addr} {S : Sto} {H G : Hp} {p : Addr} {o : HO} (r : Rel K F μ S H G) (h : H p = none) : Rel K F μ S (upd H p o) (upd G p o) where
  sub := fun a u e => by
    by_cases ha : a = p
    · subst ha
      rw [upd_same] at e ⊢
      exact e
    · rw [upd_ne ha] at e ⊢
      exact r.sub a u e
  len := r.len
  cell := fun n c e => by
    obtain ⟨a, vs, h1, h2, h3, h4⟩ := r.cell n c e
    have ne : a ≠ p := ne_of_none h2 h
    exact ⟨a, vs, h1, by rw [upd_ne ne]; exact h2, h3.mono (Pf.refl _) (Ex.new (r.sub.back h)), by rw [upd_ne ne]; exact h4⟩
  inj := r.inj
  trk := fun a ha z => by
    have hn : a ≠ p := fun q => r.trk a ha (q ▸ h)
    rw [upd_ne hn] at z
    exact r.trk a ha z
  frm := r.frm.off (r.frm.back h)
  frd := fun a u e => by
    have hn : a ≠ p := fun q => by
      rw [q, r.frm.back h] at e
      cases e
    rw [upd_ne hn]
    exact r.frd a u e

/-- slots: what is known of them -/
abbrev Env' := List (Option D)
structure REnv (K : PySem.W.Frag) (μ : List Addr) (G : Hp) (σ : L2.St) (ρ : Env') : Prop where
  len : σ.length = ρ.length
  at' : ∀ (i : Nat) (d : D), ρ[i]? = some (some d) → ∃ v, σ[i]? = some (some v) ∧ Rp K μ G v d
theorem REnv.mono {K : PySem.W.Frag} {μ μ' : List Addr} {G G' : Hp} {σ : L2.St} {ρ : Env'} (r : REnv K μ G σ ρ) (p : Pf μ μ') (e : Ex G G') : REnv K μ' G' σ ρ :=
  ⟨r.len, fun i d h => let ⟨v, h1, h2⟩ := r.at' i d h; ⟨v, h1, h2.mono p e⟩⟩
theorem REnv.set {K : PySem.W.Frag} {μ : List Addr} {G : Hp} {σ : L2.St} {ρ : Env'} {v : V} {d : D} (r : REnv K μ G σ ρ) (i : Nat) (h : Rp K μ G v d) : REnv K μ G (σ.set i (some v)) (ρ.set i (some d)) := by
  refine ⟨by rw [List.length_set, List.length_set, r.len], fun j e q => ?_⟩
  by_cases hj : i = j
  · subst hj
    by_cases hi : i < ρ.length
    · rw [List.getElem?_set_self hi] at q
      cases q
      exact ⟨v, by rw [List.getElem?_set_self (by rw [r.len]; exact hi)], h⟩
    · rw [List.getElem?_eq_none (by rw [List.length_set]; omega)] at q
      cases q
  · rw [List.getElem?_set_ne hj] at q
    obtain ⟨w, h1, h2⟩ := r.at' j e q
    exact ⟨w, by rw [List.getElem?_set_ne hj]; exact h1, h2⟩

/-! ### readings -/
abbrev ME := Env' → Sto → Option (D × Sto)
abbrev MA := Env' → Sto → Option (List D × Sto)
abbrev MT := Env' → Sto → Option (Bool × Sto)
/-- what follows a value: wherever the store has gone -/
def Aft (K : PySem.W.Frag) (F : Hp) (μ : List Addr) (G : Hp) (S' : Sto) (P : List Addr → Hp → Hp → Prop) : Prop := ∀ μ' G' H', Pf μ μ' → Ex G G' → Rel K F μ' S' H' G' → P μ' G' H'
theorem Aft.mono {K : PySem.W.Frag} {μ μ' : List Addr} {G G' : Hp} {S' : Sto} {P : List Addr → Hp → Hp → Prop} (h : Aft K F μ G S' P) (p : Pf μ μ') (e : Ex G G') : Aft K F μ' G' S' P :=
  fun μ2 G2 H2 p2 e2 r => h μ2 G2 H2 (p.trans p2) (e.trans e2) r
def tD (K : PySem.W.Frag) (m : ME) : TE := fun σ H Q => ∃ F μ G S ρ d S', Rel K F μ S H G ∧ REnv K μ G σ ρ ∧ m ρ S = some (d, S') ∧ Aft K F μ G S' fun μ' G' H' => ∀ v, Rp K μ' G' v d → Q v H'
def tDA (K : PySem.W.Frag) (m : MA) : TA := fun σ H Q => ∃ F μ G S ρ d S', Rel K F μ S H G ∧ REnv K μ G σ ρ ∧ m ρ S = some (d, S') ∧ Aft K F μ G S' fun μ' G' H' => ∀ v, RpA K μ' G' v d → Q v H'
def tDT (K : PySem.W.Frag) (m : MT) : TT := fun σ H Q => ∃ F μ G S ρ d S', Rel K F μ S H G ∧ REnv K μ G σ ρ ∧ m ρ S = some (d, S') ∧ Aft K F μ G S' fun _ _ H' => Q d H'
inductive Fl where
  | nx (ρ : Env') | rt (d : D) | bk (ρ : Env') | ct (ρ : Env')
abbrev MS := Env' → Sto → Option (Fl × Sto)
def FlE (K : PySem.W.Frag) (E : Ends) (f : Fl) (μ : List Addr) (G H : Hp) : Prop := match f with
  | .nx ρ => ∀ σ, REnv K μ G σ ρ → E.nx σ H
  | .rt d => ∀ v, Rp K μ G v d → E.rt v H
  | .bk ρ => ∀ σ, REnv K μ G σ ρ → E.bk σ H
  | .ct ρ => ∀ σ, REnv K μ G σ ρ → E.ct σ H
def tDS (K : PySem.W.Frag) (m : MS) : TS := fun E σ H => ∃ F μ G S ρ f S', Rel K F μ S H G ∧ REnv K μ G σ ρ ∧ m ρ S = some (f, S') ∧ Aft K F μ G S' (FlE K E f)

theorem _root_.L2.PE.weak {X : Cx} {e : Expr} {t t' : TE} (h : PE X e t) (w : ∀ σ H Q, t' σ H Q → t σ H Q) : PE X e t' := ⟨fun pins s σ H Q I q => h.run pins s σ H Q I (w σ H Q q)⟩
theorem _root_.L2.PA.weak {X : Cx} {e : List Expr} {t t' : TA} (h : PA X e t) (w : ∀ σ H Q, t' σ H Q → t σ H Q) : PA X e t' := ⟨fun pos pins s σ H Q I q => h.run pos pins s σ H Q I (w σ H Q q)⟩
theorem _root_.L2.PT.weak {X : Cx} {e : Expr} {t t' : TT} (h : PT X e t) (w : ∀ σ H Q, t' σ H Q → t σ H Q) : PT X e t' := ⟨fun pins s σ H Q I q => h.run pins s σ H Q I (w σ H Q q)⟩
theorem _root_.L2.PW.weak {X : Cx} {e : Expr} {t t' : TT} (h : PW X e t) (w : ∀ σ H Q, t' σ H Q → t σ H Q) : PW X e t' := ⟨fun wh pins s σ H Q I q => h.run wh pins s σ H Q I (w σ H Q q)⟩
theorem _root_.L2.PS.weak {X : Cx} {e : Stmt} {t t' : TS} (h : PS X e t) (w : ∀ D σ H, t' D σ H → t D σ H) : PS X e t' := ⟨fun pins s σ H D I q => h.run pins s σ H D I (w D σ H q)⟩
theorem _root_.L2.PSs.weak {X : Cx} {e : List Stmt} {t t' : TS} (h : PSs X e t) (w : ∀ D σ H, t' D σ H → t D σ H) : PSs X e t' := ⟨fun pins s σ H D I q => h.run pins s σ H D I (w D σ H q)⟩

/-- a value of data, at once -/
theorem tD_now {K : PySem.W.Frag} {μ : List Addr} {G H : Hp} {S' : Sto} {d : D} {Q : VK} {v : V} (a : Aft K F μ G S' fun μ' G' H' => ∀ v, Rp K μ' G' v d → Q v H') (r : Rel K F μ S' H G) (h : Rp K μ G v d) : Q v H := a μ G H (Pf.refl _) (Ex.refl _) r v h
/-- a new object -/
theorem tD_new {K : PySem.W.Frag} {μ : List Addr} {G H : Hp} {S' : Sto} {d : D} {Q : VK} {p : Addr} {o : HO} (a : Aft K F μ G S' fun μ' G' H' => ∀ v, Rp K μ' G' v d → Q v H') (r : Rel K F μ S' H G) (hp : H p = none) (h : Rp K μ (upd G p o) (.ref p) d) : Q (.ref p) (upd H p o) :=
  a μ _ _ (Pf.refl _) (Ex.new (r.sub.back hp)) (r.fresh hp) _ h

section
variable {X : Cx} {K : PySem.W.Frag} {pos : Pos}
/-! ### leaves -/
def mVar (i : Nat) : ME := fun ρ S => match ρ[i]? with
  | some (some d) => some (d, S)
  | _ => none
def mC (d : D) : ME := fun _ S => some (d, S)
theorem d_var (i : Nat) {x : Str} (hN : X.N[i]? = some x := by rfl) (hv : Vis X.env.scope x := by first | exact Or.inl rfl | exact Or.inr (Or.inl rfl) | exact Or.inr (Or.inr rfl)) (hd : (x == ("__debug__" : Str)) = false := by decide)
    (hcd : (x == ("__classdict__" : Str)) = false := by decide) : PE X (.Name x pos) (tD X.K (mVar i)) :=
  (pe_var hN hv hd hcd).weak fun σ H Q ⟨F, μ, G, S, ρ, d, S', r, re, e, a⟩ => by
    unfold mVar at e
    split at e
    · rename_i d' hd'
      cases e
      obtain ⟨v, h1, h2⟩ := re.at' i _ hd'
      exact ⟨v, h1, tD_now a r h2⟩
    · cases e
theorem d_c {e : Expr} {v : V} {d : D} (h : PE X e (tC v)) (r : ∀ μ G, Rp X.K μ G v d) : PE X e (tD X.K (mC d)) :=
  h.weak fun σ H Q ⟨F, μ, G, S, ρ, d, S', q, re, e, a⟩ => by
    cases e
    exact tD_now a q (r μ G)
theorem d_int {i : Int} {j : Nat} : PE X (.Constant (.int i) j pos) (tD X.K (mC (.int i))) := d_c pe_int fun _ _ => .int i
theorem d_bl {i : Bool} {j : Nat} : PE X (.Constant (.bool i) j pos) (tD X.K (mC (.bl i))) := d_c pe_bl fun _ _ => .bl i
theorem d_str {i : Str} {j : Nat} : PE X (.Constant (.str i) j pos) (tD X.K (mC (.str i))) := d_c pe_str fun _ _ => .str i
theorem d_non {j : Nat} : PE X (.Constant .none j pos) (tD X.K (mC .non)) := d_c pe_non fun _ _ => .non

/-! ### two in a row -/
def mBin (f : D → D → Sto → Option (D × Sto)) (m1 m2 : ME) : ME := fun ρ S => (m1 ρ S).bind fun p => (m2 ρ p.2).bind fun q => f p.1 q.1 q.2
/-- an operation by values -/
def OpD (K : PySem.W.Frag) (r : R2) (f : D → D → Sto → Option (D × Sto)) : Prop := ∀ F μ G S H x y d e z S' (Q : VK), Rel K F μ S H G → Rp K μ G x d → Rp K μ G y e → f d e S = some (z, S') → (Aft K F μ G S' fun μ' G' H' => ∀ v, Rp K μ' G' v z → Q v H') → r x y H Q
theorem bin_weak {r : R2} {f : D → D → Sto → Option (D × Sto)} {m1 m2 : ME} (h : OpD K r f) : ∀ σ H Q, tD K (mBin f m1 m2) σ H Q → tOp r (tD K m1) (tD K m2) σ H Q := by
  rintro σ H Q ⟨F, μ, G, S, ρ, d, S', q, re, e, a⟩
  unfold mBin at e
  cases e1 : m1 ρ S with
  | none =>
    rw [e1] at e
    cases e
  | some p1 =>
    rw [e1] at e
    obtain ⟨d1, S1⟩ := p1
    have e : (m2 ρ S1).bind (fun q => f d1 q.1 q.2) = some (d, S') := e
    cases e2 : m2 ρ S1 with
    | none =>
      rw [e2] at e
      cases e
    | some p2 =>
      rw [e2] at e
      obtain ⟨d2, S2⟩ := p2
      have e : f d1 d2 S2 = some (d, S') := e
      refine ⟨F, μ, G, S, ρ, d1, S1, q, re, e1, fun μ1 G1 H1 p1 x1 q1 v1 r1 => ?_⟩
      refine ⟨F, μ1, G1, S1, ρ, d2, S2, q1, re.mono p1 x1, e2, fun μ2 G2 H2 p2 x2 q2 v2 r2 => ?_⟩
      exact h F μ2 G2 S2 H2 v1 v2 d1 d2 d S' Q q2 (r1.mono p2 x2) r2 e (a.mono (p1.trans p2) (x1.trans x2))
theorem d_op {op : Operator} {r : R2} {f : D → D → Sto → Option (D × Sto)} {a b : Expr} {m1 m2 : ME} (ho : OpR X (binaryOp op) r) (h : OpD X.K r f) (h1 : PE X a (tD X.K m1)) (h2 : PE X b (tD X.K m2)) : PE X (.BinOp a op b pos) (tD X.K (mBin f m1 m2)) :=
  (pe_op ho h1 h2).weak (bin_weak h)
theorem OpD.or {r r' : R2} {f f' : D → D → Sto → Option (D × Sto)} (h : OpD K r f) (h' : OpD K r' f') : OpD K (fun x y H Q => r x y H Q ∨ r' x y H Q) (fun d e S => (f d e S).orElse fun _ => f' d e S) := by
  intro F μ G S H x y d e z S' Q q r1 r2 hf a
  cases hf1 : f d e S with
  | some z1 =>
    simp only [hf1] at hf
    exact .inl (h F μ G S H x y d e z S' Q q r1 r2 (hf1.trans hf) a)
  | none =>
    simp only [hf1] at hf
    exact .inr (h' F μ G S H x y d e z S' Q q r1 r2 hf a)
end
end DL
/-! DQ -/
/-! DQ: data with dicts: what is read, and its repr. -/
namespace DL
open PySem PySem.Spec PyProof.Rows L2
/-- a key as data -/
def keyPy : Key → PyData
  | .inl i => .int i
  | .inr x => .str x
mutual
/-- reads, where no dict is the modules' -/
inductive Cln (h : Heap) : Value → PyData → Prop
  | none : Cln h .none .none
  | bool (b : Bool) : Cln h (.bool b) (.bool b)
  | int (i : Int) (t : Tok) : Cln h (.int i t) (.int i)
  | str (x : Str) (t : Tok) : Cln h (.str x t) (.str x)
  | list {a : Addr} {o : Obj} {vs : Array Value} {n : Nat} {xs : List PyData} : h.get? a = some o → o.cls = .type "list" → o.data = .seq vs n → ClnAll h vs.toList xs → Cln h (.ref a) (.list xs)
  | tuple {a : Addr} {o : Obj} {vs : Array Value} {n : Nat} {xs : List PyData} : h.get? a = some o → o.cls = .type "tuple" → o.data = .seq vs n → ClnAll h vs.toList xs → Cln h (.ref a) (.tuple xs)
  | dict {a : Addr} {o : Obj} {es : Array DictEntry} {n : Nat} {kvs : List (PyData × PyData)} : h.get? a = some o → o.cls = .type "dict" → o.data = .dict es n → ClnAll h (es.toList.map (·.key)) (kvs.map (·.1)) →
      ClnAll h (es.toList.map (·.val)) (kvs.map (·.2)) → (a == sysModules) = false → Cln h (.ref a) (.dict kvs)
inductive ClnAll (h : Heap) : List Value → List PyData → Prop
  | nil : ClnAll h [] []
  | cons {v : Value} {vs : List Value} {d : PyData} {ds : List PyData} : Cln h v d → ClnAll h vs ds → ClnAll h (v :: vs) (d :: ds)
end
mutual
theorem Cln.reads {h : Heap} : ∀ {v : Value} {d : PyData}, Cln h v d → ∃ as, Reads h v d as
  | _, _, .none => ⟨_, .none⟩
  | _, _, .bool b => ⟨_, .bool b⟩
  | _, _, .int i t => ⟨_, .int i t⟩
  | _, _, .str x t => ⟨_, .str x t⟩
  | _, _, .list h1 h2 h3 h4 => let ⟨_, r⟩ := ClnAll.reads h4; ⟨_, .list h1 h2 h3 r⟩
  | _, _, .tuple h1 h2 h3 h4 => let ⟨_, r⟩ := ClnAll.reads h4; ⟨_, .tuple h1 h2 h3 r⟩
  | _, _, .dict h1 h2 h3 h4 h5 _ => let ⟨_, r⟩ := ClnAll.reads h4; let ⟨_, q⟩ := ClnAll.reads h5; ⟨_, .dict h1 h2 h3 r q⟩
theorem ClnAll.reads {h : Heap} : ∀ {vs : List Value} {ds : List PyData}, ClnAll h vs ds → ∃ as, ReadsAll h vs ds as
  | _, _, .nil => ⟨_, .nil⟩
  | _, _, .cons r rs => let ⟨_, q⟩ := Cln.reads r; let ⟨_, qs⟩ := ClnAll.reads rs; ⟨_, .cons q qs⟩
end
section
variable {P : Program} {W : World} {h : Heap}
/-- the text of one value comes, where it is not too long -/
def Shw (P : Program) (W : World) (h : Heap) (v : Value) (d : PyData) : Prop := d.showable = true → d.shown.length ≤ sizeLine → ∃ low : List Addr, ReadAtMost h d.depth low ∧ ReprK P W low h d.depth v d.shown
/-- the same of a row of values -/
def Shws (P : Program) (W : World) (h : Heap) (vs : List Value) (ds : List PyData) : Prop :=
  PyData.showableAll ds = true → (∀ y ∈ PyData.shownAll ds, y.length ≤ sizeLine) → ∃ low : List Addr, ReadAtMost h (PyData.depthAll ds) low ∧ ReprAllK P W low h (PyData.depthAll ds) vs (PyData.shownAll ds)
theorem Shw.plain {v : Value} {d : PyData} (z : d.showable = true → d.shown.length ≤ sizeLine → ReprIs P W v d.shown) : Shw P W h v d := fun s1 s2 => ⟨[], fun _ q => (List.not_mem_nil q).elim, ReprK.of_is (z s1 s2) _ _ _⟩
theorem Shws.nil : Shws P W h [] [] := fun _ _ => ⟨[], fun _ q => (List.not_mem_nil q).elim, by simp only [PyData.shownAll]; exact ReprAllK.nil⟩
theorem Shws.cons {v : Value} {vs : List Value} {d : PyData} {ds : List PyData} (one : Shw P W h v d) (more : Shws P W h vs ds) : Shws P W h (v :: vs) (d :: ds) := fun s1 s2 => by
  simp only [PyData.showableAll, Bool.and_eq_true] at s1
  simp only [PyData.shownAll, List.forall_mem_cons] at s2
  obtain ⟨l1, p1, q1⟩ := one s1.1 s2.1
  obtain ⟨l2, p2, q2⟩ := more s1.2 s2.2
  simp only [PyData.depthAll, PyData.shownAll]
  exact ⟨l1 ++ l2, (p1.mono (Nat.le_max_left _ _)).append (p2.mono (Nat.le_max_right _ _)),
    ReprAllK.cons ((q1.more fun _ z => List.mem_append.mpr (.inl z)).level_le (Nat.le_max_left _ _)) (q2.more_le (fun _ z => List.mem_append.mpr (.inr z)) (Nat.le_max_right _ _))⟩
/-- what is known of a row within a thing at a: the thing lies deeper than all of it -/
theorem above {a : Addr} {d : PyData} {n : Nat} {low : List Addr} (c : Cln h (.ref a) d) (z : d.depth = n + 1) (p : ReadAtMost h n low) : a ∉ low ∧ ReadAtMost h (n + 1) (a :: low) := by
  obtain ⟨as, r⟩ := c.reads
  refine ⟨not_mem_of_deeper r (by omega) p, ?_⟩
  have := ReadAtMost.cons r (n := n) (by omega) p
  rw [z] at this
  exact this
theorem Shw.list {a : Addr} {o : Obj} {vs : Array Value} {n : Nat} {xs : List PyData} (g1 : h.get? a = some o) (g2 : o.cls = .type "list") (g3 : o.data = .seq vs n) (c : ClnAll h vs.toList xs) (row : Shws P W h vs.toList xs) : Shw P W h (.ref a) (.list xs) := fun s1 s2 => by
  simp only [PyData.showable] at s1
  simp only [PyData.shown] at s2
  obtain ⟨low, p, q⟩ := row s1 fun y hy => Nat.le_trans (listText_mem_le hy) s2
  obtain ⟨f, top⟩ := above (.list g1 g2 g3 c) (by simp only [PyData.depth]) p
  refine ⟨a :: low, by simp only [PyData.depth]; exact top, ?_⟩
  simp only [PyData.depth, PyData.shown]
  rcases vs with ⟨_ | ⟨y, ys⟩⟩
  · cases (show ClnAll h [] xs from c)
    simp only [PyData.shownAll]
    rw [listText_nil]
    exact ReprK.listEmpty g1 g2 g3
  · exact ReprK.list g1 g2 g3 f q.length_eq fun i z e => q.item i z (by simpa using e)
theorem Shw.tuple {a : Addr} {o : Obj} {vs : Array Value} {n : Nat} {xs : List PyData} (g1 : h.get? a = some o) (g2 : o.cls = .type "tuple") (g3 : o.data = .seq vs n) (c : ClnAll h vs.toList xs) (row : Shws P W h vs.toList xs) : Shw P W h (.ref a) (.tuple xs) := fun s1 s2 => by
  simp only [PyData.showable] at s1
  simp only [PyData.shown] at s2
  obtain ⟨low, p, q⟩ := row s1 fun y hy => Nat.le_trans (tupleText_mem_le hy) s2
  obtain ⟨f, top⟩ := above (.tuple g1 g2 g3 c) (by simp only [PyData.depth]) p
  refine ⟨a :: low, by simp only [PyData.depth]; exact top, ?_⟩
  simp only [PyData.depth, PyData.shown]
  exact ReprK.tuple g1 g2 g3 f q
/-- the entries of a dict, from its keys and its values -/
theorem entries {es : Array DictEntry} {ps : List (PyData × PyData)} (ks : Shws P W h (es.toList.map (·.key)) (ps.map (·.1))) (vs : Shws P W h (es.toList.map (·.val)) (ps.map (·.2))) (s1 : PyData.showableKv ps = true) (s2 : (dictText (PyData.shownKv ps)).length ≤ sizeLine) :
    ∃ low : List Addr, ReadAtMost h (PyData.depthKv ps) low ∧ ReprEntriesK P W low h (PyData.depthKv ps) es.toList (PyData.shownKv ps) := by
  have part : ∀ {y : Str}, (∃ z ∈ PyData.shownKv ps, y.length ≤ z.length) → y.length ≤ sizeLine := fun ⟨z, hz, le⟩ => Nat.le_trans (Nat.le_trans le (dictText_mem_le hz)) s2
  have both := PyData.showableKv_split ps s1
  obtain ⟨l1, p1, q1⟩ := ks both.1 fun y hy => part (PyData.shownKv_key_le ps y hy)
  obtain ⟨l2, p2, q2⟩ := vs both.2 fun y hy => part (PyData.shownKv_val_le ps y hy)
  have d1 := PyData.depthAll_keys_le ps
  have d2 := PyData.depthAll_vals_le ps
  refine ⟨l1 ++ l2, (p1.mono d1).append (p2.mono d2), ?_⟩
  rw [PyData.shownKv_eq]
  exact ReprEntriesK.of_two _ _ _ (q1.more_le (fun _ z => List.mem_append.mpr (.inl z)) d1) (q2.more_le (fun _ z => List.mem_append.mpr (.inr z)) d2)
theorem Shw.dict {a : Addr} {o : Obj} {es : Array DictEntry} {n : Nat} {ps : List (PyData × PyData)} (g1 : h.get? a = some o) (g2 : o.cls = .type "dict") (g3 : o.data = .dict es n) (c : Cln h (.ref a) (.dict ps)) (own : (a == sysModules) = false)
    (ks : Shws P W h (es.toList.map (·.key)) (ps.map (·.1))) (vs : Shws P W h (es.toList.map (·.val)) (ps.map (·.2))) : Shw P W h (.ref a) (.dict ps) := fun s1 s2 => by
  simp only [PyData.showable] at s1
  simp only [PyData.shown] at s2
  obtain ⟨low, p, q⟩ := entries ks vs s1 s2
  obtain ⟨f, top⟩ := above c (by simp only [PyData.depth]) p
  refine ⟨a :: low, by simp only [PyData.depth]; exact top, ?_⟩
  simp only [PyData.depth, PyData.shown]
  exact ReprK.dict g1 g2 g3 own f q
mutual
theorem Cln.shw : ∀ {v : Value} {d : PyData}, Cln h v d → Shw P W h v d
  | _, _, .none => Shw.plain fun _ _ => by simp only [PyData.shown]; exact ReprIs.none
  | _, _, .bool b => Shw.plain fun _ _ => by simp only [PyData.shown]; exact ReprIs.bool b
  | _, _, .int i t => Shw.plain fun s1 _ => by simp only [PyData.shown]; exact ReprIs.int t (by simpa [PyData.showable] using s1)
  | _, _, .str x t => Shw.plain fun _ s2 => by simp only [PyData.shown] at s2 ⊢; exact ReprIs.str x t s2
  | _, _, .list g1 g2 g3 c => Shw.list g1 g2 g3 c (ClnAll.shws c)
  | _, _, .tuple g1 g2 g3 c => Shw.tuple g1 g2 g3 c (ClnAll.shws c)
  | _, _, .dict g1 g2 g3 c1 c2 own => Shw.dict g1 g2 g3 (.dict g1 g2 g3 c1 c2 own) own (ClnAll.shws c1) (ClnAll.shws c2)
theorem ClnAll.shws : ∀ {vs : List Value} {ds : List PyData}, ClnAll h vs ds → Shws P W h vs ds
  | _, _, .nil => Shws.nil
  | _, _, .cons c cs => Shws.cons (Cln.shw c) (ClnAll.shws cs)
end
/-- repr by its slot -/
def ByS (P : Program) (W : World) (h : Heap) (a : Addr) (d : PyData) : Prop := ∃ T f, ShowsBy P W h a d T f
theorem byS {a : Addr} {d : PyData} (c : Cln h (.ref a) d) (s1 : d.showable = true) (s2 : d.shown.length ≤ sizeLine) : ByS P W h a d := by
  cases c with
  | @list _ o vs n xs g1 g2 g3 c =>
    simp only [PyData.showable] at s1
    simp only [PyData.shown] at s2
    obtain ⟨low, p, q⟩ := ClnAll.shws (P := P) (W := W) c s1 fun y hy => Nat.le_trans (listText_mem_le hy) s2
    obtain ⟨f, _⟩ := above (.list g1 g2 g3 c) (by simp only [PyData.depth]) p
    refine ⟨_, _, F.slot_list_repr.toG, F.slot_list_str, F.slot_list_format, fun s k => ⟨o, k _ _ g1, g2⟩, fun A E s Q hg hu k hq => ?_⟩
    simp only [PyData.depth] at hu
    simp only [PyData.shown] at hq
    rcases vs with ⟨_ | ⟨y, ys⟩⟩
    · cases (show ClnAll h [] xs from c)
      simp only [PyData.shownAll] at hq
      rw [listText_nil] at hq
      exact call_list_repr_empty ⟨o, k _ _ g1, g2⟩ (k _ _ g1) g3 (hq _ _ _ fun _ _ z => z)
    · exact call_list_reprK g1 g2 g3 f q.length_eq (fun i z e => q.item i z (by simpa using e)) hg (fun b _ => Clear.nil b) hu k hq s2
  | @tuple _ o vs n xs g1 g2 g3 c =>
    simp only [PyData.showable] at s1
    simp only [PyData.shown] at s2
    obtain ⟨low, p, q⟩ := ClnAll.shws (P := P) (W := W) c s1 fun y hy => Nat.le_trans (tupleText_mem_le hy) s2
    obtain ⟨f, _⟩ := above (.tuple g1 g2 g3 c) (by simp only [PyData.depth]) p
    refine ⟨_, _, F.slot_tuple_repr, F.slot_tuple_str, F.slot_tuple_format, fun s k => ⟨o, k _ _ g1, g2⟩, fun A E s Q hg hu k hq => ?_⟩
    simp only [PyData.depth] at hu
    simp only [PyData.shown] at hq
    exact call_tuple_reprK g1 g2 g3 f q hg (fun b _ => Clear.nil b) hu k hq s2
  | @dict _ o es n ps g1 g2 g3 c1 c2 own =>
    simp only [PyData.showable] at s1
    simp only [PyData.shown] at s2
    obtain ⟨low, p, q⟩ := entries (ClnAll.shws (P := P) (W := W) c1) (ClnAll.shws c2) s1 s2
    obtain ⟨f, _⟩ := above (.dict g1 g2 g3 c1 c2 own) (by simp only [PyData.depth]) p
    refine ⟨_, _, F.slot_dict_repr, F.slot_dict_str, F.slot_dict_format, fun s k => ⟨o, k _ _ g1, g2⟩, fun A E s Q hg hu k hq => ?_⟩
    simp only [PyData.depth] at hu
    simp only [PyData.shown] at hq
    exact call_dict_reprK g1 g2 g3 own f q hg (fun b _ => Clear.nil b) hu k hq s2
theorem repr_cln {A : Around} {E : Value → Shared → Prop} {s : Shared} {Q : Value → Shared → Prop} {a : Addr} {d : PyData} (c : Cln s.heap (.ref a) d) (s1 : d.showable = true) (s2 : d.shown.length ≤ sizeLine) (hg : A.guards = some []) (hu : A.units + d.depth + 1 < cLine)
    (hq : ∀ g t k, (∀ b o, s.heap.get? b = some o → g.get? b = some o) → Q (.str d.shown t) { s with heap := g, toks := k }) : wpAny (model P W) A (call (.builtin "repr") [.ref a]) Q E s := by
  obtain ⟨T, f, S⟩ := byS (P := P) (W := W) c s1 s2
  have all : ∀ (b : Addr) (o : Obj), s.heap.get? b = some o → s.heap.get? b = some o := fun _ _ z => z
  refine call_repr_slot (by omega) (S.typeIs s all) S.slotRepr (S.call A.in1 E s _ hg ?_ all fun g t k z => ⟨_, _, rfl, hq g t k z⟩)
  show A.units + 1 + d.depth < cLine
  omega
end
/-! data of the abstract heap, with dicts -/
mutual
inductive Dq (K : PySem.W.Frag) (H : Hp) : V → PyData → Prop
  | non : Dq K H .non .none
  | bl (b : Bool) : Dq K H (.bl b) (.bool b)
  | int (i : Int) : Dq K H (.int i) (.int i)
  | str (x : Str) : Dq K H (.str x) (.str x)
  | lst {a : Addr} {xs : List V} {ds : List PyData} : SqL K H a xs → DqAll K H xs ds → Dq K H (.ref a) (.list ds)
  | tup {a : Addr} {xs : List V} {ds : List PyData} : SqT K H a xs → DqAll K H xs ds → Dq K H (.ref a) (.tuple ds)
  | dct {a : Addr} {kvs : List (Key × V)} {ps : List (PyData × PyData)} : H a = some (.dK kvs) → DqKv K H kvs ps → Dq K H (.ref a) (.dict ps)
inductive DqAll (K : PySem.W.Frag) (H : Hp) : List V → List PyData → Prop
  | nil : DqAll K H [] []
  | cons {v : V} {vs : List V} {d : PyData} {ds : List PyData} : Dq K H v d → DqAll K H vs ds → DqAll K H (v :: vs) (d :: ds)
inductive DqKv (K : PySem.W.Frag) (H : Hp) : List (Key × V) → List (PyData × PyData) → Prop
  | nil : DqKv K H [] []
  | cons {k : Key} {v : V} {kvs : List (Key × V)} {d : PyData} {ps : List (PyData × PyData)} : Dq K H v d → DqKv K H kvs ps → DqKv K H ((k, v) :: kvs) ((keyPy k, d) :: ps)
end
theorem key_cln {h : Heap} {k : Key} {v : Value} (e : keyIs k v = true) : Cln h v (keyPy k) := by
  rcases keyIs_shape e with ⟨i, t, rfl, rfl⟩ | ⟨x, t, rfl, rfl⟩
  · exact .int i t
  · exact .str x t
section
variable {X : Cx} {pins : List (Addr × Obj)} {σ : L2.St} {H : Hp} {s : Shared}
mutual
theorem Dq.cln (I : Inv X pins σ H s) : ∀ {v : V} {d : PyData} {u : Value}, Dq X.K H v d → RelV v u → Cln s.heap u d
  | _, _, _, .non, r => by cases r; exact .none
  | _, _, _, .bl b, r => by cases r; exact .bool b
  | _, _, _, .int i, r => by obtain ⟨t, rfl⟩ := r; exact .int i t
  | _, _, _, .str x, r => by obtain ⟨t, rfl⟩ := r; exact .str x t
  | _, _, _, .lst hs ha, r => by
    cases r
    obtain ⟨its, rv, ⟨o, n, ho, hc, _, hd⟩, _⟩ := I.list hs
    exact .list ho hc hd (DqAll.cln I ha rv)
  | _, _, _, .tup hs ha, r => by
    cases r
    obtain ⟨its, rv, ⟨o, ho, hc, n, hd⟩, _⟩ := I.tuple hs
    exact .tuple ho hc hd (DqAll.cln I ha rv)
  | _, _, _, .dct hs ha, r => by
    cases r
    obtain ⟨_, hsys, vs, kv, o, es, ep, ho, hx, hd, _, hp, _⟩ := dk_of I.hok hs
    obtain ⟨c1, c2⟩ := DqKv.cln I ha kv hp
    exact .dict ho hx.1 hd c1 c2 hsys
theorem DqAll.cln (I : Inv X pins σ H s) : ∀ {vs : List V} {ds : List PyData} {us : List Value}, DqAll X.K H vs ds → Vals vs us → ClnAll s.heap us ds
  | _, _, _, .nil, r => by cases r; exact .nil
  | _, _, _, .cons h t, r => by
    cases r with
    | cons r1 r2 => exact .cons (Dq.cln I h r1) (DqAll.cln I t r2)
theorem DqKv.cln (I : Inv X pins σ H s) : ∀ {kvs : List (Key × V)} {ps : List (PyData × PyData)} {vs : List (Key × Value)} {es : List DictEntry}, DqKv X.K H kvs ps → KV kvs vs → Pairs (mixKind X.prog X.w) es vs →
    ClnAll s.heap (es.map (·.key)) (ps.map (·.1)) ∧ ClnAll s.heap (es.map (·.val)) (ps.map (·.2))
  | _, _, _, _, .nil, kv, pr => by
    cases kv
    cases pr
    exact ⟨.nil, .nil⟩
  | _, _, _, _, .cons h t, kv, pr => by
    cases kv with
    | cons k1 k2 =>
      cases pr with
      | cons p1 p2 p3 =>
        obtain ⟨c1, c2⟩ := DqKv.cln I t k2 p3
        refine ⟨.cons ?_ c1, .cons ?_ c2⟩
        · have e := k1.1
          simp only at e
          rw [← e] at p1
          exact key_cln p1
        · simp only
          rw [p2]
          exact Dq.cln I h k1.2
end
/-- what repr asks of data -/
def rReprQ (K : PySem.W.Frag) : List V → Hp → VK → Prop := fun xs H Q => ∃ x d, xs = [x] ∧ Dq K H x d ∧ d.showable = true ∧ d.depth ≤ 60 ∧ d.shown.length ≤ sizeLine ∧ Q (.str d.shown) H
theorem call_reprQ (hgd : X.A.guards = some []) (hu : X.A.units + 64 < cLine) : CallR X (.builtin "repr") (rReprQ X.K) := by
  intro pins s σ H xs us Q I r h
  obtain ⟨x, d, rfl, hd, hs, hdp, hz, q⟩ := h
  obtain ⟨u, rfl, ru⟩ := vals1 r
  have c := Dq.cln I hd ru
  have fin : ∀ h' t tk, (∀ b o, s.heap.get? b = some o → h'.get? b = some o) → EP X pins σ Q (.str d.shown t) { s with heap := h', toks := tk } := fun h' t tk hk => ⟨.str d.shown, H, I.kept hk, ⟨t, rfl⟩, q⟩
  cases hd with
  | non =>
    cases ru
    exact PySem.P.repr_of_none (by have z := fin s.heap s.toks (s.toks + 1) fun _ _ e => e; simpa only [PyData.shown] using z)
  | bl b =>
    cases ru
    exact PySem.P.repr_of_bool (by have z := fin s.heap s.toks (s.toks + 1) fun _ _ e => e; simpa only [PyData.shown] using z)
  | int i =>
    obtain ⟨t, rfl⟩ := ru
    have hl : i.natAbs.log2 < 1920 := by simpa only [PyData.showable, decide_eq_true_eq] using hs
    exact PySem.P.repr_of_int hl (by have z := fin s.heap s.toks (s.toks + 1) fun _ _ e => e; simpa only [PyData.shown] using z)
  | str y =>
    obtain ⟨t, rfl⟩ := ru
    exact PySem.P.repr_of_str (by have z := fin s.heap s.toks (s.toks + 1) fun _ _ e => e; simpa only [PyData.shown] using z) (by simpa only [PyData.shown] using hz)
  | lst h1 h2 =>
    cases ru
    exact repr_cln c hs hz hgd (by omega) fin
  | tup h1 h2 =>
    cases ru
    exact repr_cln c hs hz hgd (by omega) fin
  | dct h1 h2 =>
    cases ru
    exact repr_cln c hs hz hgd (by omega) fin
end
end DL
/-! DQe -/
/-! DQe: a dict is no text. -/
namespace DL
open PySem PySem.Spec PyProof.Rows L2
theorem str_declines_dict (b : Str) (u : Tok) (l : Addr) (c : Value) (es : Array DictEntry) (n : Nat) (dd : Option Addr) (sl : Array (Option Value)) :
    Meets (Builtin.«str.__eq__» ⟨[.str b u, .ref l], []⟩) (fun _ R s => s.heap.get? l = some { cls := c, dict := dd, data := .dict es n, slots := sl } ∧ R (.ok (.ret .notImplemented)) s) :=
  .of_wp fun prog w A R s h => by obtain ⟨hp, g, d, tk, os⟩ := s; obtain ⟨hl, h⟩ := h; wp_walk using wpAny_loadPart' hl, wpAny_load hl; exact ⟨_, rfl, h⟩
section
variable {A : Around} {s : Shared}
theorem dict_declines {prog : Program} {w : World} {E Q : Value → Shared → Prop} {a : Addr} {v : Value} {T : String} (da : s.TypeIs (.ref a) "dict") (dv : s.TypeIs v T) (sub : isSubtype (.type T) (.type "dict") = pure false) (h : Q .notImplemented s) :
    wpAny (model prog w) A (call (.builtin "dict.__eq__") [.ref a, v]) Q E s := by
  refine wpAny_call_entry PySem.F.slot_dict_eq da PySem.F.entry_dict_eq ?_ (PySem.F.args_dict_eq_2 _ _)
  show wpAny _ _ (Builtin.Dict.dictSlotArgs "__eq__" ⟨[.ref a, v], []⟩ >>= _) _ _ s
  refine wpAny_bind ?_
  unfold Builtin.Dict.dictSlotArgs
  refine wpAny_bind (wpAny_notOrdered_dict da ?_)
  show wpAny _ _ (pure (Value.ref a, v)) _ _ s
  refine wpAny_pure ?_
  refine wpAny_bind (wpAny_isInstance (T := T) dv sub ?_)
  simp only [Bool.not_false, if_true]
  refine wpAny_bind (wpAny_rule (wpAny_pure ?_))
  exact ⟨_, rfl, h⟩
theorem rc_dict_str {a : Addr} {o : Obj} {es : Array DictEntry} {n : Nat} (b : Str) (u : Tok) (ho : s.heap.get? a = some o) (hx : o.ExactDict) (hd : o.data = .dict es n) (hu : A.units < cLine) : SeqAt.RcAt A s (.ref a) (.str b u) false := fun prog w E Q h => by
  obtain ⟨cls, dd, data, sl⟩ := o
  obtain ⟨h1, h2, h3⟩ := hx
  simp only at h1 h2 h3 hd
  subst h1 h2 h3 hd
  exact SeqAt.rc_eq_decline_or (k := false) (Ta := "dict") (Tb := "str") ⟨_, ho, rfl⟩ (typeIs_str s b u) (by decide) F.sub_str_dict F.slot_dict_eq F.slot_str_eq_refl
    (fun _ hq => dict_declines ⟨_, ho, rfl⟩ (typeIs_str s b u) F.sub_str_dict hq)
    (fun _ hq => call_meets F.slot_str_eq_refl (typeIs_str s b u) F.entry_str_eq (F.args_str_eq_2 _ _) (str_declines_dict b u a (.type "dict") es n none #[]) ⟨ho, hq⟩)
    (fun _ hq => wpAny_of_eq (rfl : isSame (.ref a) (.str b u) = pure false) hq) (.inr hu) h
theorem rc_str_dict {a : Addr} {o : Obj} {es : Array DictEntry} {n : Nat} (b : Str) (u : Tok) (ho : s.heap.get? a = some o) (hx : o.ExactDict) (hd : o.data = .dict es n) (hu : A.units < cLine) : SeqAt.RcAt A s (.str b u) (.ref a) false := fun prog w E Q h => by
  obtain ⟨cls, dd, data, sl⟩ := o
  obtain ⟨h1, h2, h3⟩ := hx
  simp only at h1 h2 h3 hd
  subst h1 h2 h3 hd
  exact SeqAt.rc_eq_decline_or (k := false) (Ta := "str") (Tb := "dict") (typeIs_str s b u) ⟨_, ho, rfl⟩ (by decide) F.sub_dict_str F.slot_str_eq F.slot_dict_eq_refl
    (fun _ hq => call_meets F.slot_str_eq (typeIs_str s b u) F.entry_str_eq (F.args_str_eq_2 _ _) (str_declines_dict b u a (.type "dict") es n none #[]) ⟨ho, hq⟩)
    (fun _ hq => dict_declines ⟨_, ho, rfl⟩ (typeIs_str s b u) F.sub_str_dict hq)
    (fun _ hq => wpAny_of_eq (rfl : isSame (.str b u) (.ref a) = pure false) hq) (.inr hu) h
theorem eq_str_dict {a : Addr} {o : Obj} {es : Array DictEntry} {n : Nat} (b : Str) (u : Tok) (ho : s.heap.get? a = some o) (hx : o.ExactDict) (hd : o.data = .dict es n) (hu : A.units < cLine) : SeqAt.EqAt A s (.str b u) (.ref a) false := fun prog w E Q h => by
  unfold eqBool
  refine wpAny_holding ?_
  refine wpAny_ite_split (fun hab => absurd (eq_of_beq hab) nofun) (fun _ => ?_)
  exact wpAny_bind (rc_str_dict b u ho hx hd hu prog w E _ (wpAny_truthy_bool h))
end
section
variable {X : Cx}
/-- a dict and a text, either way round -/
def rDS : R2 := fun x y H Q => (∃ a kvs z, x = .ref a ∧ H a = some (.dK kvs) ∧ y = .str z ∧ Q (.bl false) H) ∨ (∃ a kvs z, x = .str z ∧ y = .ref a ∧ H a = some (.dK kvs) ∧ Q (.bl false) H)
theorem op_eqDS (hu : X.A.units < cLine) : OpR X (compareOp .Eq) rDS := by
  intro pins s σ H x y v u Q I rx ry h
  rcases h with ⟨a, kvs, z, rfl, hH, rfl, q⟩ | ⟨a, kvs, z, rfl, rfl, hH, q⟩
  · cases rx
    obtain ⟨t, rfl⟩ := ry
    obtain ⟨_, _, vs, kv, o, es, ep, ho, hx, hd, _⟩ := dk_of I.hok hH
    exact rc_dict_str z t ho hx hd hu X.prog X.w _ _ ⟨.bl false, H, I, rfl, q⟩
  · cases ry
    obtain ⟨t, rfl⟩ := rx
    obtain ⟨_, _, vs, kv, o, es, ep, ho, hx, hd, _⟩ := dk_of I.hok hH
    exact rc_str_dict z t ho hx hd hu X.prog X.w _ _ ⟨.bl false, H, I, rfl, q⟩
/-- a dict in a row of texts -/
def rInDS (K : PySem.W.Frag) : R2 := fun x y H Q => ∃ a kvs b ws, x = .ref a ∧ H a = some (.dK kvs) ∧ y = .ref b ∧ (SqL K H b ws ∨ SqT K H b ws) ∧ (∀ v ∈ ws, ∃ z, v = .str z) ∧ Q (.bl false) H
theorem vals_strs : ∀ {ws : List V} {us : List Value}, Vals ws us → (∀ v ∈ ws, ∃ z, v = .str z) → ∀ u ∈ us, ∃ z t, u = .str z t
  | _, _, .nil, _, u, hu => by cases hu
  | _, _, .cons r t, h, u, hu => by
    rcases List.mem_cons.mp hu with rfl | hu
    · obtain ⟨z, rfl⟩ := h _ (List.mem_cons_self ..)
      obtain ⟨k, e⟩ := r
      exact ⟨z, k, e⟩
    · exact vals_strs t (fun v hv => h v (List.mem_cons_of_mem _ hv)) u hu
theorem op_inDS (hu : X.A.units + 65 < cLine) : OpR X (compareOp .In) (rInDS X.K) := by
  intro pins s σ H x y v u Q I rx ry h
  obtain ⟨a, kvs, b, ws, rfl, hH, rfl, hs, hw, q⟩ := h
  cases rx
  cases ry
  obtain ⟨_, _, vs, kv, o, es, ep, ho, hx, hd, _⟩ := dk_of I.hok hH
  have key : ∀ its : List Value, Vals ws its → ∀ y, y ∈ its.toArray → SeqAt.EqAt X.A.in1 s y (.ref a) ((fun _ => false) y) := fun its r y hy => by
    obtain ⟨z, t, rfl⟩ := vals_strs r hw y (by simpa using hy)
    exact eq_str_dict z t ho hx hd (by show X.A.units + 1 < cLine; omega)
  have fin : ∀ its : List Value, EP X pins σ Q (.bool (its.toArray.any fun _ => false)) s := fun its => by
    have e : (its.toArray.any fun _ => false) = false := by simp
    rw [e]
    exact ⟨.bl false, H, I, rfl, q⟩
  rcases hs with hs | hs
  · obtain ⟨its, r', pl, _⟩ := I.list hs
    exact SeqAt.in_listAt _ pl.isList (key its r') (fin its)
  · obtain ⟨its, r', ⟨o2, g1, g2, n2, g3⟩, _⟩ := I.tuple hs
    exact SeqAt.in_tupleAt _ ⟨o2, g1, g2, n2, g3⟩ (key its r') (fin its)
end
end DL
/-! DQf -/
/-! DQf: a tuple, a list is no text, whatever lies in it; a tuple beside an empty one. -/
namespace DL
open PySem PySem.Spec PyProof.Rows L2
/-- a row at a -/
def RowAt (K : PySem.W.Frag) (H : Hp) (a : Addr) : Prop := (∃ ws, SqL K H a ws) ∨ ∃ ws, SqT K H a ws
section
variable {X : Cx}
theorem row_str {pins : List (Addr × Obj)} {σ : L2.St} {H : Hp} {s : Shared} {a : Addr} {A : Around} (I : Inv X pins σ H s) (h : RowAt X.K H a) (z : Str) (t : Tok) (hu : A.units < cLine) :
    SeqAt.RcAt A s (.ref a) (.str z t) false ∧ SeqAt.RcAt A s (.str z t) (.ref a) false ∧ SeqAt.EqAt A s (.str z t) (.ref a) false := by
  rcases h with ⟨ws, h⟩ | ⟨ws, h⟩
  · obtain ⟨its, r', pl, _⟩ := I.list h
    exact ⟨SeqAt.RcAt.list_str z t pl.isList hu, SeqAt.RcAt.str_list z t pl.isList hu, SeqAt.EqAt.str_list z t pl.isList hu⟩
  · obtain ⟨its, r', tp, _⟩ := I.tuple h
    exact ⟨SeqAt.RcAt.tuple_str z t tp hu, SeqAt.RcAt.str_tuple z t tp hu, SeqAt.EqAt.str_tuple z t tp hu⟩
/-- a row and a text, either way round -/
def rCS (K : PySem.W.Frag) : R2 := fun x y H Q => (∃ a z, x = .ref a ∧ RowAt K H a ∧ y = .str z ∧ Q (.bl false) H) ∨ (∃ a z, x = .str z ∧ y = .ref a ∧ RowAt K H a ∧ Q (.bl false) H)
theorem op_eqCS (hu : X.A.units < cLine) : OpR X (compareOp .Eq) (rCS X.K) := by
  intro pins s σ H x y v u Q I rx ry h
  rcases h with ⟨a, z, rfl, hH, rfl, q⟩ | ⟨a, z, rfl, rfl, hH, q⟩
  · cases rx
    obtain ⟨t, rfl⟩ := ry
    exact (row_str I hH z t hu).1 X.prog X.w _ _ ⟨.bl false, H, I, rfl, q⟩
  · cases ry
    obtain ⟨t, rfl⟩ := rx
    exact (row_str I hH z t hu).2.1 X.prog X.w _ _ ⟨.bl false, H, I, rfl, q⟩
/-- a row in a row of texts -/
def rInCS (K : PySem.W.Frag) : R2 := fun x y H Q => ∃ a b ws, x = .ref a ∧ RowAt K H a ∧ y = .ref b ∧ (SqL K H b ws ∨ SqT K H b ws) ∧ (∀ v ∈ ws, ∃ z, v = .str z) ∧ Q (.bl false) H
theorem op_inCS (hu : X.A.units + 65 < cLine) : OpR X (compareOp .In) (rInCS X.K) := by
  intro pins s σ H x y v u Q I rx ry h
  obtain ⟨a, b, ws, rfl, hH, rfl, hs, hw, q⟩ := h
  cases rx
  cases ry
  have key : ∀ its : List Value, Vals ws its → ∀ y, y ∈ its.toArray → SeqAt.EqAt X.A.in1 s y (.ref a) ((fun _ => false) y) := fun its r y hy => by
    obtain ⟨z, t, rfl⟩ := vals_strs r hw y (by simpa using hy)
    exact (row_str I hH z t (by show X.A.units + 1 < cLine; omega)).2.2
  have fin : ∀ its : List Value, EP X pins σ Q (.bool (its.toArray.any fun _ => false)) s := fun its => by
    have e : (its.toArray.any fun _ => false) = false := by simp
    rw [e]
    exact ⟨.bl false, H, I, rfl, q⟩
  rcases hs with hs | hs
  · obtain ⟨its, r', pl, _⟩ := I.list hs
    exact SeqAt.in_listAt _ pl.isList (key its r') (fin its)
  · obtain ⟨its, r', ⟨o2, g1, g2, n2, g3⟩, _⟩ := I.tuple hs
    exact SeqAt.in_tupleAt _ ⟨o2, g1, g2, n2, g3⟩ (key its r') (fin its)
/-- two tuples, one of them empty -/
def rEmp (K : PySem.W.Frag) : R2 := fun x y H Q => ∃ a b xs ys, x = .ref a ∧ y = .ref b ∧ SqT K H a xs ∧ SqT K H b ys ∧ (xs = [] ∨ ys = []) ∧ Q (.bl (xs.isEmpty && ys.isEmpty)) H
theorem op_eqEmp (hu : X.A.units < cLine) : OpR X (compareOp .Eq) (rEmp X.K) := by
  intro pins s σ H x y v u Q I rx ry h
  obtain ⟨a, b, xs, ys, rfl, rfl, h1, h2, he, q⟩ := h
  cases rx
  cases ry
  obtain ⟨its, r1, t1, _⟩ := I.tuple h1
  obtain ⟨its2, r2, t2, _⟩ := I.tuple h2
  have l1 : its.length = xs.length := r1.length.symm
  have l2 : its2.length = ys.length := r2.length.symm
  have e : ((List.range (min its.toArray.size its2.toArray.size)).all (fun _ => true) && its.toArray.size == its2.toArray.size) = (xs.isEmpty && ys.isEmpty) := by
    simp only [List.size_toArray, l1, l2, List.all_eq_true.mpr (fun _ _ => rfl), Bool.true_and]
    rcases he with rfl | rfl
    · cases ys <;> simp
    · cases xs <;> simp
  refine PySem.SeqAt.rcIn_tuples (e := fun _ => true) t1 t2 hu (fun j g1 g2 => ?_) ?_
  · exfalso
    simp only [List.size_toArray, l1, l2] at g1 g2
    rcases he with rfl | rfl
    · simp at g1
    · simp at g2
  · rw [e]
    exact ⟨.bl _, H, I, rfl, q⟩
end
end DL
/-! DLb -/
/-! DL: operations. -/
namespace DL
open PySem PySem.Spec PyProof.Rows L2
variable {F : Hp}

theorem sz6 {n : Nat} (h : n ≤ 1000000) : n ≤ sizeLine := Nat.le_trans h (by rw [sizeLine_eq]; decide)
theorem sz6' {n : Nat} (h : n < 1000000) : n < sizeLine := Nat.lt_of_lt_of_le h (by rw [sizeLine_eq]; decide)

theorem ifs {c : Prop} [Decidable c] {α : Type} {a b : α} (h : (if c then some a else none) = some b) : c ∧ a = b := by
  by_cases hc : c
  · rw [if_pos hc] at h
    exact ⟨hc, Option.some.inj h⟩
  · rw [if_neg hc] at h
    cases h
/-! ### plain data -/
mutual
/-- no place of the store, no dict -/
def D.flat : D → Bool
  | .tup xs => D.flats xs
  | .lst xs => D.flats xs
  | .rol xs => D.flats xs
  | .dct _ _ => false
  | .loc _ => false
  | .str s => PyData.strOk s
  | _ => true
def D.flats : List D → Bool
  | [] => true
  | x :: xs => x.flat && D.flats xs
end
mutual
def D.py : D → PyData
  | .non => .none
  | .bl b => .bool b
  | .int i => .int i
  | .str s => .str s
  | .tup xs => .tuple (D.pys xs)
  | .lst xs => .list (D.pys xs)
  | .rol xs => .list (D.pys xs)
  | .dct ks xs => .dict ((ks.map keyPy).zip (D.pys xs))
  | .loc _ => .none
def D.pys : List D → List PyData
  | [] => []
  | x :: xs => x.py :: D.pys xs
end
mutual
theorem Rp.dp {K : PySem.W.Frag} {μ : List Addr} {G H : Hp} (e : Ex G H) : ∀ {d : D} {v : V}, Rp K μ G v d → d.flat = true → Dp K H v d.py
  | _, _, .non, _ => by unfold D.py; exact .non
  | _, _, .bl b, _ => by unfold D.py; exact .bl b
  | _, _, .int i, _ => by unfold D.py; exact .int i
  | _, _, .str x, _ => by unfold D.py; exact .str x
  | _, _, .tup h a, f => by
    unfold D.flat at f
    unfold D.py
    exact .tup (e.st h) (RpA.dp e a f)
  | _, _, .lst h a, f => by
    unfold D.flat at f
    unfold D.py
    exact .lst (SqL.of (e _ _ h)) (RpA.dp e a f)
  | _, _, .rol h a, f => by
    unfold D.flat at f
    unfold D.py
    exact .lst (e.sl h) (RpA.dp e a f)
theorem RpA.dp {K : PySem.W.Frag} {μ : List Addr} {G H : Hp} (e : Ex G H) : ∀ {ds : List D} {vs : List V}, RpA K μ G vs ds → D.flats ds = true → DpAll K H vs (D.pys ds)
  | _, _, .nil, _ => by unfold D.pys; exact .nil
  | _, _, .cons h t, f => by
    unfold D.flats at f
    rw [Bool.and_eq_true] at f
    unfold D.pys
    exact .cons (Rp.dp e h f.1) (RpA.dp e t f.2)
end
mutual
theorem D.lay : ∀ {d : D}, d.flat = true → d.py.canLay0 = true
  | .non, _ => by simp [D.py, PyData.canLay0]
  | .bl _, _ => by simp [D.py, PyData.canLay0]
  | .int _, _ => by simp [D.py, PyData.canLay0]
  | .str s, h => by simp only [D.py, PyData.canLay0]; exact h
  | .tup xs, h => by simp only [D.py, PyData.canLay0]; exact D.lays h
  | .lst xs, h => by simp only [D.py, PyData.canLay0]; exact D.lays h
  | .rol xs, h => by simp only [D.py, PyData.canLay0]; exact D.lays h
  | .dct _ _, h => by simp [D.flat] at h
  | .loc _, _ => by simp [D.py, PyData.canLay0]
theorem D.lays : ∀ {ds : List D}, D.flats ds = true → PyData.canLayAll0 (D.pys ds) = true
  | [], _ => by simp [D.pys, PyData.canLayAll0]
  | d :: ds, h => by
    unfold D.flats at h
    rw [Bool.and_eq_true] at h
    simp only [D.pys, PyData.canLayAll0, Bool.and_eq_true]
    exact ⟨D.lay h.1, D.lays h.2⟩
end
mutual
/-- no place of the store -/
def D.full : D → Bool
  | .tup xs => D.fulls xs
  | .lst xs => D.fulls xs
  | .rol xs => D.fulls xs
  | .dct _ xs => D.fulls xs
  | .loc _ => false
  | _ => true
def D.fulls : List D → Bool
  | [] => true
  | x :: xs => x.full && D.fulls xs
end
mutual
theorem full_of : ∀ {d : D}, d.flat = true → d.full = true
  | .non, _ => rfl
  | .bl _, _ => rfl
  | .int _, _ => rfl
  | .str _, _ => rfl
  | .tup xs, h => by simp only [D.full]; exact fulls_of h
  | .lst xs, h => by simp only [D.full]; exact fulls_of h
  | .rol xs, h => by simp only [D.full]; exact fulls_of h
  | .dct _ _, h => by simp [D.flat] at h
  | .loc _, h => by simp [D.flat] at h
theorem fulls_of : ∀ {ds : List D}, D.flats ds = true → D.fulls ds = true
  | [], _ => rfl
  | d :: ds, h => by
    unfold D.flats at h
    rw [Bool.and_eq_true] at h
    simp only [D.fulls, Bool.and_eq_true]
    exact ⟨full_of h.1, fulls_of h.2⟩
end
theorem kv_of {K : PySem.W.Frag} {H : Hp} : ∀ {ks : List Key} {xs : List V} {ps : List PyData}, DqAll K H xs ps → ks.length = xs.length → DqKv K H (ks.zip xs) ((ks.map keyPy).zip ps)
  | [], _, _, _, _ => by
    simp only [List.zip_nil_left, List.map_nil]
    exact .nil
  | k :: ks, _, _, .nil, h => by simp at h
  | k :: ks, _, _, .cons q t, h => by
    simp only [List.zip_cons_cons, List.map_cons]
    exact .cons q (kv_of t (by simpa using h))
mutual
theorem Rp.dq {K : PySem.W.Frag} {μ : List Addr} {G H : Hp} (e : Ex G H) : ∀ {d : D} {v : V}, Rp K μ G v d → d.full = true → Dq K H v d.py
  | _, _, .non, _ => by unfold D.py; exact .non
  | _, _, .bl b, _ => by unfold D.py; exact .bl b
  | _, _, .int i, _ => by unfold D.py; exact .int i
  | _, _, .str x, _ => by unfold D.py; exact .str x
  | _, _, .tup h a, f => by
    unfold D.full at f
    unfold D.py
    exact .tup (e.st h) (RpA.dq e a f)
  | _, _, .lst h a, f => by
    unfold D.full at f
    unfold D.py
    exact .lst (SqL.of (e _ _ h)) (RpA.dq e a f)
  | _, _, .rol h a, f => by
    unfold D.full at f
    unfold D.py
    exact .lst (e.sl h) (RpA.dq e a f)
  | _, _, .dct h a l, f => by
    unfold D.full at f
    unfold D.py
    exact .dct (e _ _ h) (kv_of (RpA.dq e a f) l)
theorem RpA.dq {K : PySem.W.Frag} {μ : List Addr} {G H : Hp} (e : Ex G H) : ∀ {ds : List D} {vs : List V}, RpA K μ G vs ds → D.fulls ds = true → DqAll K H vs (D.pys ds)
  | _, _, .nil, _ => by unfold D.pys; exact .nil
  | _, _, .cons h t, f => by
    unfold D.fulls at f
    rw [Bool.and_eq_true] at f
    unfold D.pys
    exact .cons (Rp.dq e h f.1) (RpA.dq e t f.2)
end
/-- a place of the store, as the list that lies there -/
def see (S : Sto) (d : D) : D := match d with
  | .loc n => match S[n]? with
    | some (some c) => .lst c
    | _ => .loc n
  | d => d
theorem see_full {S : Sto} : ∀ {d : D}, d.full = true → see S d = d
  | .loc _, h => by simp [D.full] at h
  | .non, _ => rfl
  | .bl _, _ => rfl
  | .int _, _ => rfl
  | .str _, _ => rfl
  | .tup _, _ => rfl
  | .lst _, _ => rfl
  | .rol _, _ => rfl
  | .dct _ _, _ => rfl
theorem see_flat {S : Sto} {d : D} (h : d.flat = true) : see S d = d := see_full (full_of h)
theorem see_loc {S : Sto} {n : Nat} {c : List D} (h : S[n]? = some (some c)) : see S (.loc n) = .lst c := by
  unfold see
  simp only [h]
theorem Rel.at {K : PySem.W.Frag} {μ : List Addr} {S : Sto} {H G : Hp} {a : Addr} {n : Nat} {c : List D} (r : Rel K F μ S H G) (q : Rp K μ G (.ref a) (.loc n)) (h : S[n]? = some (some c)) : ∃ vs, H a = some (.lst vs) ∧ RpA K μ G vs c := by
  cases q with
  | loc hm =>
    obtain ⟨b, vs, h1, h2, h3, h4⟩ := r.cell n c h
    rw [hm] at h1
    cases h1
    exact ⟨vs, h2, h3⟩
theorem Rp.dpS {K : PySem.W.Frag} {μ : List Addr} {S : Sto} {H G : Hp} {v : V} {d : D} (q : Rp K μ G v d) (r : Rel K F μ S H G) (h : (see S d).flat = true) : Dp K H v (see S d).py := by
  unfold see at h ⊢
  split at h
  · rename_i n
    split at h
    · rename_i c hc
      cases q with
      | loc hm =>
        obtain ⟨vs, h1, h2⟩ := r.at (.loc hm) hc
        unfold D.flat at h
        unfold D.py
        exact .lst (SqL.of h1) (RpA.dp r.sub h2 h)
    · simp [D.flat] at h
  · exact Rp.dp r.sub q h
theorem Rp.dqS {K : PySem.W.Frag} {μ : List Addr} {S : Sto} {H G : Hp} {v : V} {d : D} (q : Rp K μ G v d) (r : Rel K F μ S H G) (h : (see S d).full = true) : Dq K H v (see S d).py := by
  unfold see at h ⊢
  split at h
  · rename_i n
    split at h
    · rename_i c hc
      cases q with
      | loc hm =>
        obtain ⟨vs, h1, h2⟩ := r.at (.loc hm) hc
        unfold D.full at h
        unfold D.py
        exact .lst (SqL.of h1) (RpA.dq r.sub h2 h)
    · simp [D.full] at h
  · exact Rp.dq r.sub q h
/-- may be compared -/
def D.cmpb (d : D) : Bool := d.flat && decide (d.py.depth ≤ 64)
theorem D.shp {d : D} (h : d.cmpb = true) : SeqAt.shaped d.py = true := by
  unfold D.cmpb at h
  rw [Bool.and_eq_true] at h
  show (d.py.canLay0 && decide (d.py.depth ≤ 64)) = true
  rw [Bool.and_eq_true]
  exact ⟨D.lay h.1, h.2⟩
theorem D.cmpf {d : D} (h : d.cmpb = true) : d.flat = true := by
  unfold D.cmpb at h
  rw [Bool.and_eq_true] at h
  exact h.1

/-! ### operators -/
abbrev MOp := D → D → Sto → Option (D × Sto)
def fAdd : MOp
  | .int i, .int j, S => some (.int (i + j), S)
  | .str x, .str y, S => if x.length + y.length ≤ 1000000 then some (.str (x ++ y), S) else none
  | .lst a, .lst b, S => if a.length + b.length ≤ 1000000 then some (.lst (a ++ b), S) else none
  | .tup a, .tup b, S => if a.length + b.length ≤ 1000000 then some (.tup (a ++ b), S) else none
  | _, _, _ => none
def rAddD (K : PySem.W.Frag) : R2 := fun x y H Q => ((rI0 fun i j => .int (i + j)) x y H Q ∨ (∃ i j, x = .str i ∧ y = .str j ∧ i.length + j.length ≤ sizeLine ∧ Q (.str (i ++ j)) H)) ∨ rCat x y H Q ∨ rCatA K x y H Q
theorem o_add {X : Cx} : OpR X (binaryOp .Add) (rAddD X.K) := (op_add.or op_add_str).or (op_cat.or op_catA)
theorem f_add {K : PySem.W.Frag} : OpD K (rAddD K) fAdd := by
  intro F μ G S H x y d e z S' Q r r1 r2 hf a
  cases d with
  | int i =>
    cases e with
    | int j =>
      cases r1
      cases r2
      cases hf
      exact .inl (.inl ⟨i, j, rfl, rfl, tD_now a r (.int _)⟩)
    | _ => cases hf
  | str i =>
    cases e with
    | str j =>
      cases r1
      cases r2
      obtain ⟨h, hz⟩ := ifs hf
      cases hz
      exact .inl (.inr ⟨i, j, rfl, rfl, sz6 h, tD_now a r (.str _)⟩)
    | _ => cases hf
  | lst i =>
    cases e with
    | lst j =>
      cases r1 with
      | lst h1 h2 =>
        cases r2 with
        | lst g1 g2 =>
          obtain ⟨h, hz⟩ := ifs hf
          cases hz
          refine .inr (.inl ⟨_, _, _, _, rfl, rfl, r.sub _ _ h1, r.sub _ _ g1, by rw [h2.len, g2.len]; exact sz6 h, fun p hp => tD_new a r hp ?_⟩)
          exact .lst upd_same ((h2.app g2).mono (Pf.refl _) (Ex.new (r.sub.back hp)))
    | _ => cases hf
  | tup i =>
    cases e with
    | tup j =>
      cases r1 with
      | tup h1 h2 =>
        cases r2 with
        | tup g1 g2 =>
          obtain ⟨h, hz⟩ := ifs hf
          cases hz
          refine .inr (.inr ⟨_, _, _, _, rfl, rfl, r.sub.st h1, r.sub.st g1, by rw [h2.len, g2.len]; exact sz6 h, fun hx => ?_, fun _ hy => ?_, fun _ _ p hp => tD_new a r hp ?_⟩)
          · subst hx
            cases h2
            exact tD_now a r (.tup g1 g2)
          · subst hy
            cases g2
            rw [List.append_nil] at a
            exact tD_now a r (.tup h1 h2)
          · exact .tup (SqT.of upd_same) ((h2.app g2).mono (Pf.refl _) (Ex.new (r.sub.back hp)))
    | _ => cases hf
  | _ => cases hf
def fSub : MOp
  | .int i, .int j, S => some (.int (i - j), S)
  | _, _, _ => none
theorem f_sub {K : PySem.W.Frag} : OpD K (rI0 fun i j => .int (i - j)) fSub := by
  intro F μ G S H x y d e z S' Q r r1 r2 hf a
  cases d with
  | int i =>
    cases e with
    | int j =>
      cases r1
      cases r2
      cases hf
      exact ⟨i, j, rfl, rfl, tD_now a r (.int _)⟩
    | _ => cases hf
  | _ => cases hf
/-- a text so many times -/
def repS (z : Str) (k : Int) : Str := if k < 1 then Str.empty else if (k == 1 || z.length == 0) = true then z else ⟨(List.replicate k.toNat z.cps).foldl (· ++ ·) #[]⟩
theorem fold_sz (c : Array Nat) : ∀ (n : Nat) (a : Array Nat), ((List.replicate n c).foldl (· ++ ·) a).size = a.size + c.size * n
  | 0, a => by simp
  | n + 1, a => by
    rw [List.replicate_succ, List.foldl_cons, fold_sz c n, Array.size_append, Nat.mul_succ]
    omega
theorem repS_len {z : Str} {k : Int} : (repS z k).length ≤ z.length * k.toNat := by
  unfold repS
  split
  · exact Nat.zero_le _
  · split
    · rename_i h1 h2
      have hk : 1 ≤ k.toNat := by omega
      exact Nat.le_mul_of_pos_right _ hk
    · show (Array.size _) ≤ _
      rw [fold_sz]
      have : z.length = z.cps.size := rfl
      simp [this]
def rRepS : R2 := fun x y H Q => ∃ z k, x = .str z ∧ y = .int k ∧ (0 ≤ k ∧ k ≤ 1000000 ∧ z.length * k.toNat ≤ 1000000) ∧ Q (.str (repS z k)) H
theorem op_repS {X : Cx} : OpR X (binaryOp .Mult) rRepS := by
  intro pins s σ H x y v u Q I rx ry h
  obtain ⟨z, k, rfl, rfl, ⟨h1, h2, h3⟩, q⟩ := h
  obtain ⟨t, rfl⟩ := rx
  obtain ⟨t', rfl⟩ := ry
  have hl : z.length * k.toNat ≤ sizeLine := sz6 h3
  have ans : ∀ (t0 : Tok) (tk : Nat), EP X pins σ Q (.str (repS z k) t0) { s with toks := tk } := fun t0 tk => ⟨.str (repS z k), H, I.tok _, ⟨t0, rfl⟩, q⟩
  have same : EP X pins σ Q (.str (repS z k) t) s := ⟨.str (repS z k), H, I, ⟨t, rfl⟩, q⟩
  have hz : (repS z k).length ≤ sizeLine := Nat.le_trans repS_len hl
  refine PySem.P.mul_str ?_ (fun g1 g2 => ?_) (fun g1 g2 => ?_) ?_
  · rw [decide_eq_false (by omega), decide_eq_false (by omega)]
    rfl
  · intro g
    have hk : 0 < k := by omega
    have hzp : 1 ≤ z.length := by
      rw [Bool.or_eq_false_iff] at g2
      have := g2.2
      have : z.length ≠ 0 := by simpa using this
      omega
    have hzl : z.length ≤ 1000000 := by
      have : z.length * 1 ≤ z.length * k.toNat := Nat.mul_le_mul_left _ (by omega)
      omega
    have : (z.length : Int) ≤ (2 ^ 63 - 1) / k := by
      rw [Int.le_ediv_iff_mul_le hk]
      have h5 : (z.length : Int) * k ≤ 1000000 * 1000000 := Int.mul_le_mul (by omega) h2 (by omega) (by omega)
      omega
    omega
  · unfold Builtin.Str.tooLong
    exact decide_eq_false (by omega)
  · unfold repS at hz ans same
    split
    · rename_i c
      rw [if_pos c] at hz ans
      exact ⟨hz, ans _ _⟩
    · rename_i c
      rw [if_neg c] at hz ans same
      split
      · rename_i c2
        rw [if_pos c2] at same
        exact same
      · rename_i c2
        rw [if_neg c2] at hz ans
        exact ⟨hz, ans _ _⟩
/-- products: one factor within 2 ^ 64; a list so many times -/
def fMul : MOp
  | .int i, .int j, S => if (-(2 ^ 64) < i ∧ i < 2 ^ 64) ∨ (-(2 ^ 64) < j ∧ j < 2 ^ 64) then some (.int (i * j), S) else none
  | .lst a, .int k, S => if 0 ≤ k ∧ k ≤ 1000000 ∧ a.length * k.toNat ≤ 1000000 then some (.lst (List.replicate k.toNat a).flatten, S) else none
  | .str a, .int k, S => if 0 ≤ k ∧ k ≤ 1000000 ∧ a.length * k.toNat ≤ 1000000 then some (.str (repS a k), S) else none
  | _, _, _ => none
def rMulD : R2 := fun x y H Q => (rI CMul fun i j => .int (i * j)) x y H Q ∨ rRep x y H Q ∨ rRepS x y H Q
theorem o_mul {X : Cx} : OpR X (binaryOp .Mult) rMulD := op_mul.or (op_rep.or op_repS)
theorem f_mul {K : PySem.W.Frag} : OpD K rMulD fMul := by
  intro F μ G S H x y d e z S' Q r r1 r2 hf a
  cases d with
  | int i =>
    cases e with
    | int j =>
      cases r1
      cases r2
      obtain ⟨h, hz⟩ := ifs hf
      cases hz
      exact .inl ⟨i, j, rfl, rfl, h, tD_now a r (.int _)⟩
    | _ => cases hf
  | lst i =>
    cases e with
    | int j =>
      cases r1 with
      | lst h1 h2 =>
        cases r2
        obtain ⟨h, hz⟩ := ifs hf
        cases hz
        refine .inr (.inl ⟨_, _, _, rfl, rfl, r.sub _ _ h1, by omega, by omega, by rw [h2.len]; exact sz6 h.2.2, fun p hp => tD_new a r hp ?_⟩)
        exact .lst upd_same ((h2.rep _).mono (Pf.refl _) (Ex.new (r.sub.back hp)))
    | _ => cases hf
  | str i =>
    cases e with
    | int j =>
      cases r1
      cases r2
      obtain ⟨h, hz⟩ := ifs hf
      cases hz
      exact .inr (.inr ⟨_, _, rfl, rfl, h, tD_now a r (.str _)⟩)
    | _ => cases hf
  | _ => cases hf
def fMod : MOp
  | .int i, .int j, S => if 0 < j then some (.int (i % j), S) else none
  | _, _, _ => none
theorem f_mod {K : PySem.W.Frag} : OpD K (rI (fun _ j => 0 < j) fun i j => .int (i % j)) fMod := by
  intro F μ G S H x y d e z S' Q r r1 r2 hf a
  cases d with
  | int i =>
    cases e with
    | int j =>
      cases r1
      cases r2
      obtain ⟨h, hz⟩ := ifs hf
      cases hz
      exact ⟨i, j, rfl, rfl, h, tD_now a r (.int _)⟩
    | _ => cases hf
  | _ => cases hf
def fDiv : MOp
  | .int i, .int j, S => if 0 < j ∧ j < 1073741824 then some (.int (i / j), S) else none
  | _, _, _ => none
theorem f_div {K : PySem.W.Frag} : OpD K (rI CDiv fun i j => .int (i / j)) fDiv := by
  intro F μ G S H x y d e z S' Q r r1 r2 hf a
  cases d with
  | int i =>
    cases e with
    | int j =>
      cases r1
      cases r2
      obtain ⟨h, hz⟩ := ifs hf
      cases hz
      exact ⟨i, j, rfl, rfl, h, tD_now a r (.int _)⟩
    | _ => cases hf
  | _ => cases hf
def fPow : MOp
  | .int i, .int j, S => if 0 ≤ j ∧ j ≤ 1000000 ∧ i.natAbs < 2 ^ 64 then some (.int (i ^ j.toNat), S) else none
  | _, _, _ => none
theorem f_pow {K : PySem.W.Frag} : OpD K (rI CPow fun i j => .int (i ^ j.toNat)) fPow := by
  intro F μ G S H x y d e z S' Q r r1 r2 hf a
  cases d with
  | int i =>
    cases e with
    | int j =>
      cases r1
      cases r2
      obtain ⟨h, hz⟩ := ifs hf
      cases hz
      exact ⟨i, j, rfl, rfl, h, tD_now a r (.int _)⟩
    | _ => cases hf
  | _ => cases hf
/-- comparisons of ints -/
def fCmp (g : Int → Int → Bool) : MOp
  | .int i, .int j, S => some (.bl (g i j), S)
  | _, _, _ => none
theorem f_cmp {K : PySem.W.Frag} {g : Int → Int → Bool} : OpD K (rI0 fun i j => .bl (g i j)) (fCmp g) := by
  intro F μ G S H x y d e z S' Q r r1 r2 hf a
  cases d with
  | int i =>
    cases e with
    | int j =>
      cases r1
      cases r2
      cases hf
      exact ⟨i, j, rfl, rfl, tD_now a r (.bl _)⟩
    | _ => cases hf
  | _ => cases hf
/-- in: scalars -/
def D.scal : D → Bool
  | .non => true
  | .bl _ => true
  | .int _ => true
  | .str _ => true
  | _ => false
def eqS : D → D → Bool
  | .non, .non => true
  | .bl a, .bl b => a == b
  | .bl a, .int b => (if a then 1 else 0) == b
  | .int a, .bl b => a == (if b then 1 else 0)
  | .int a, .int b => a == b
  | .str a, .str b => a == b
  | _, _ => false
def scalD : D → D → Bool
  | .non, .non => true | .non, .int _ => true | .int _, .non => true | .non, .bl _ => true | .bl _, .non => true | .non, .str _ => true | .str _, .non => true
  | .int _, .int _ => true | .bl _, .bl _ => true | .str _, .str _ => true
  | .int _, .str _ => true | .str _, .int _ => true | .bl _, .str _ => true | .str _, .bl _ => true
  | _, _ => false
theorem scalD_V {K : PySem.W.Frag} {μ : List Addr} {G : Hp} {v w : V} {d e : D} (r : Rp K μ G v d) (q : Rp K μ G w e) (h : scalD d e = true) : L2.scal v w = true ∧ decide (v = w) = eqS d e := by
  cases r with
  | non => cases q <;> first | (cases h; done) | exact ⟨rfl, rfl⟩
  | bl b =>
    cases q with
    | bl c => exact ⟨rfl, dec_bl⟩
    | non => exact ⟨rfl, rfl⟩
    | str _ => exact ⟨rfl, rfl⟩
    | _ => cases h
  | int b =>
    cases q with
    | int c => exact ⟨rfl, dec_int⟩
    | non => exact ⟨rfl, rfl⟩
    | str _ => exact ⟨rfl, rfl⟩
    | _ => cases h
  | str b =>
    cases q with
    | str c => exact ⟨rfl, dec_str⟩
    | non => exact ⟨rfl, rfl⟩
    | int _ => exact ⟨rfl, rfl⟩
    | bl _ => exact ⟨rfl, rfl⟩
    | _ => cases h
  | _ => cases q <;> cases h
/-- == of data -/
def isDS (d e : D) : Bool := match d, e with
  | .dct _ _, .str _ => true
  | .str _, .dct _ _ => true
  | _, _ => false
/-- a row beside a text; a tuple beside an empty one -/
def D.isRow : D → Bool
  | .tup _ => true
  | .lst _ => true
  | .rol _ => true
  | _ => false
def fEq2 : MOp
  | .str _, e, S => if e.isRow = true then some (.bl false, S) else none
  | .tup xs, .tup ys, S => if xs.isEmpty = true ∨ ys.isEmpty = true then some (.bl (xs.isEmpty && ys.isEmpty), S) else none
  | d, .str _, S => if d.isRow = true then some (.bl false, S) else none
  | _, _, _ => none
def fEq : MOp := fun d e S => if scalD d e = true then some (.bl (eqS d e), S) else if (see S d).cmpb = true ∧ (see S e).cmpb = true then some (.bl (PyData.eqv (see S d).py (see S e).py), S) else if isDS d e = true then some (.bl false, S) else fEq2 d e S
def fNe : MOp := fun d e S => if scalD d e = true then some (.bl (!eqS d e), S) else if (see S d).cmpb = true ∧ (see S e).cmpb = true then some (.bl (!PyData.eqv (see S d).py (see S e).py), S) else none
theorem isRow_at {K : PySem.W.Frag} {μ : List Addr} {G H : Hp} {v : V} {d : D} (x : Ex G H) (r : Rp K μ G v d) (h : d.isRow = true) : ∃ a, v = .ref a ∧ RowAt K H a := by
  cases r with
  | tup h1 h2 => exact ⟨_, rfl, .inr ⟨_, x.st h1⟩⟩
  | lst h1 h2 => exact ⟨_, rfl, .inl ⟨_, SqL.of (x _ _ h1)⟩⟩
  | rol h1 h2 => exact ⟨_, rfl, .inl ⟨_, x.sl h1⟩⟩
  | _ => cases h
def rEq2 (K : PySem.W.Frag) : R2 := fun x y H Q => rCS K x y H Q ∨ rEmp K x y H Q
theorem f_eq2 {K : PySem.W.Frag} : OpD K (rEq2 K) fEq2 := by
  intro F μ G S H x y d e z S' Q r r1 r2 hf a
  unfold fEq2 at hf
  split at hf
  · obtain ⟨h, hz⟩ := ifs hf
    cases hz
    cases r1
    obtain ⟨p, rfl, hp⟩ := isRow_at r.sub r2 h
    exact .inl (.inr ⟨_, _, rfl, rfl, hp, tD_now a r (.bl _)⟩)
  · obtain ⟨h, hz⟩ := ifs hf
    cases hz
    cases r1 with
    | tup h1 h2 =>
      cases r2 with
      | tup g1 g2 =>
        have e1 : ∀ {vs : List V} {ds : List D}, RpA K μ G vs ds → vs.isEmpty = ds.isEmpty := fun q => by cases q <;> rfl
        refine .inr ⟨_, _, _, _, rfl, rfl, r.sub.st h1, r.sub.st g1, ?_, ?_⟩
        · rw [← List.isEmpty_iff, ← List.isEmpty_iff, e1 h2, e1 g2]
          exact h
        · rw [e1 h2, e1 g2]
          exact tD_now a r (.bl _)
  · obtain ⟨h, hz⟩ := ifs hf
    cases hz
    cases r2
    obtain ⟨p, rfl, hp⟩ := isRow_at r.sub r1 h
    exact .inl (.inl ⟨_, _, rfl, hp, rfl, tD_now a r (.bl _)⟩)
  · cases hf
def rEqA (K : PySem.W.Frag) : R2 := fun x y H Q => rEq x y H Q ∨ rEqD K x y H Q ∨ rDS x y H Q ∨ rEq2 K x y H Q
def rNeA (K : PySem.W.Frag) : R2 := fun x y H Q => rNe x y H Q ∨ rNeD K x y H Q
theorem o_eq {X : Cx} (hu : X.A.units + 64 < cLine) : OpR X (compareOp .Eq) (rEqA X.K) := op_eq.or ((op_eqD hu).or ((op_eqDS (by omega)).or ((op_eqCS (by omega)).or (op_eqEmp (by omega)))))
theorem o_ne {X : Cx} (hu : X.A.units + 64 < cLine) : OpR X (compareOp .NotEq) (rNeA X.K) := op_ne.or (op_neD hu)
theorem f_eq {K : PySem.W.Frag} : OpD K (rEqA K) fEq := by
  intro F μ G S H x y d e z S' Q r r1 r2 hf a
  unfold fEq at hf
  by_cases hs : scalD d e = true
  · rw [if_pos hs] at hf
    cases hf
    obtain ⟨h1, h2⟩ := scalD_V r1 r2 hs
    refine .inl ⟨h1, ?_⟩
    rw [h2]
    exact tD_now a r (.bl _)
  · rw [if_neg hs] at hf
    by_cases h : (see S d).cmpb = true ∧ (see S e).cmpb = true
    · rw [if_pos h] at hf
      cases hf
      exact .inr (.inl ⟨_, _, r1.dpS r (D.cmpf h.1), r2.dpS r (D.cmpf h.2), D.shp h.1, D.shp h.2, tD_now a r (.bl _)⟩)
    · rw [if_neg h] at hf
      by_cases hds : isDS d e = true
      case neg =>
        rw [if_neg hds] at hf
        exact .inr (.inr (.inr (f_eq2 F μ G S H x y d e z S' Q r r1 r2 hf a)))
      rw [if_pos hds] at hf
      cases hf
      have h := hds
      cases d with
      | dct ks xs =>
        cases e with
        | str q =>
          cases r1 with
          | dct h1 h2 h3 =>
            cases r2
            exact .inr (.inr (.inl (.inl ⟨_, _, _, rfl, r.sub _ _ h1, rfl, tD_now a r (.bl _)⟩)))
        | _ => cases h
      | str q =>
        cases e with
        | dct ks xs =>
          cases r2 with
          | dct h1 h2 h3 =>
            cases r1
            exact .inr (.inr (.inl (.inr ⟨_, _, _, rfl, rfl, r.sub _ _ h1, tD_now a r (.bl _)⟩)))
        | _ => cases h
      | _ => cases h
theorem f_ne {K : PySem.W.Frag} : OpD K (rNeA K) fNe := by
  intro F μ G S H x y d e z S' Q r r1 r2 hf a
  unfold fNe at hf
  by_cases hs : scalD d e = true
  · rw [if_pos hs] at hf
    cases hf
    obtain ⟨h1, h2⟩ := scalD_V r1 r2 hs
    refine .inl ⟨h1, ?_⟩
    rw [h2]
    exact tD_now a r (.bl _)
  · rw [if_neg hs] at hf
    obtain ⟨h, hz⟩ := ifs hf
    cases hz
    exact .inr ⟨_, _, r1.dpS r (D.cmpf h.1), r2.dpS r (D.cmpf h.2), D.shp h.1, D.shp h.2, tD_now a r (.bl _)⟩
theorem scal_flat {K : PySem.W.Frag} {μ : List Addr} {G : Hp} {v : V} {d : D} (r : Rp K μ G v d) (h : d.scal = true) : flatV v = true := by
  cases r <;> first | rfl | (cases h; done)
theorem scals_flat {K : PySem.W.Frag} {μ : List Addr} {G : Hp} : ∀ {vs : List V} {ds : List D}, RpA K μ G vs ds → ds.all D.scal = true → vs.all flatV = true
  | _, _, .nil, _ => rfl
  | _, _, .cons r t, h => by
    rw [List.all_cons, Bool.and_eq_true] at h ⊢
    exact ⟨scal_flat r h.1, scals_flat t h.2⟩
theorem eqS_V {K : PySem.W.Frag} {μ : List Addr} {G : Hp} {v w : V} {d e : D} (r : Rp K μ G v d) (q : Rp K μ G w e) (h1 : d.scal = true) (h2 : e.scal = true) : eqV v w = eqS d e := by
  cases r <;> (first | (cases h1; done) | (cases q <;> first | rfl | (cases h2; done)))
theorem inS_V {K : PySem.W.Frag} {μ : List Addr} {G : Hp} {w : V} {e : D} (q : Rp K μ G w e) (h2 : e.scal = true) : ∀ {vs : List V} {ds : List D}, RpA K μ G vs ds → ds.all D.scal = true → inV w vs = ds.any fun d => eqS d e
  | _, _, .nil, _ => rfl
  | _, _, .cons r t, h => by
    rw [List.all_cons, Bool.and_eq_true] at h
    have ih := inS_V q h2 t h.2
    unfold inV at ih ⊢
    rw [List.any_cons, List.any_cons, eqS_V r q h.1 h2, ih]
def seqOf : D → Option (List D)
  | .tup xs => some xs
  | .lst xs => some xs
  | .rol xs => some xs
  | _ => none
def D.isDct : D → Bool
  | .dct _ _ => true
  | _ => false
def D.isStr : D → Bool
  | .str _ => true
  | _ => false
theorem isStrs_V {K : PySem.W.Frag} {μ : List Addr} {G : Hp} : ∀ {vs : List V} {ds : List D}, RpA K μ G vs ds → ds.all D.isStr = true → ∀ v ∈ vs, ∃ z, v = .str z
  | _, _, .nil, _, v, hv => by cases hv
  | _, _, .cons r t, h, v, hv => by
    rw [List.all_cons, Bool.and_eq_true] at h
    rcases List.mem_cons.mp hv with rfl | hv
    · cases r <;> first | (cases h.1; done) | exact ⟨_, rfl⟩
    · exact isStrs_V t h.2 v hv
def fIn (neg : Bool) : MOp := fun d e S => match d, e with
  | .str x, .str y => some (.bl (if neg then !(!(Builtin.Str.occurrences y x 0 y.length 1).isEmpty) else !(Builtin.Str.occurrences y x 0 y.length 1).isEmpty), S)
  | d, e => match seqOf e with
    | some ys => if d.scal = true ∧ ys.all D.scal = true then some (.bl (if neg then !(ys.any fun z => eqS z d) else ys.any fun z => eqS z d), S)
        else if d.cmpb = true ∧ e.cmpb = true then some (.bl (if neg then !((D.pys ys).any fun z => PyData.eqv z d.py) else (D.pys ys).any fun z => PyData.eqv z d.py), S)
        else if neg = false ∧ d.isDct = true ∧ ys.all D.isStr = true then some (.bl false, S)
        else if neg = false ∧ d.isRow = true ∧ ys.all D.isStr = true then some (.bl false, S) else none
    | none => none
/-- in, in a row of data -/
def rInY (K : PySem.W.Frag) (neg : Bool) : R2 := fun x y H Q => ∃ d c ds, Dp K H x d ∧ Dp K H y c ∧ (c = .list ds ∨ c = .tuple ds) ∧ SeqAt.shaped d = true ∧ SeqAt.shaped c = true ∧ Q (.bl (if neg then !(ds.any fun z => PyData.eqv z d) else ds.any fun z => PyData.eqv z d)) H
theorem op_inY {X : Cx} (hu : X.A.units + 65 < cLine) : OpR X (compareOp .In) (rInY X.K false) := by
  intro pins s σ H x y v u Q I rx ry h
  obtain ⟨d, c, ds, hd, he, hc, sd, se, q⟩ := h
  obtain ⟨as, r1⟩ := Dp.reads I d x v hd rx
  obtain ⟨bs, r2⟩ := Dp.reads I c y u he ry
  rcases hc with rfl | rfl
  · exact SeqAt.in_list_reads r2 r1 (SeqAt.canLay_of_shaped se) (SeqAt.canLay_of_shaped sd) (PyProof.Rows.room_in_shaped sd hu) ⟨.bl _, H, I, rfl, q⟩
  · exact SeqAt.in_tuple_reads r2 r1 (SeqAt.canLay_of_shaped se) (SeqAt.canLay_of_shaped sd) (PyProof.Rows.room_in_shaped sd hu) ⟨.bl _, H, I, rfl, q⟩
theorem op_ninY {X : Cx} (hu : X.A.units + 65 < cLine) : OpR X (compareOp .NotIn) (rInY X.K true) := by
  intro pins s σ H x y v u Q I rx ry h
  obtain ⟨d, c, ds, hd, he, hc, sd, se, q⟩ := h
  obtain ⟨as, r1⟩ := Dp.reads I d x v hd rx
  obtain ⟨bs, r2⟩ := Dp.reads I c y u he ry
  rcases hc with rfl | rfl
  · exact SeqAt.notIn_list_reads r2 r1 (SeqAt.canLay_of_shaped se) (SeqAt.canLay_of_shaped sd) (PyProof.Rows.room_in_shaped sd hu) ⟨.bl _, H, I, rfl, q⟩
  · exact SeqAt.notIn_tuple_reads r2 r1 (SeqAt.canLay_of_shaped se) (SeqAt.canLay_of_shaped sd) (PyProof.Rows.room_in_shaped sd hu) ⟨.bl _, H, I, rfl, q⟩
theorem u65 {k : Nat} {A : Around} (r : Room k A) : A.units + 65 < cLine := by
  have := r.un
  omega
def rInD' (K : PySem.W.Frag) : R2 := fun x y H Q => (∃ i j, x = .str i ∧ y = .str j ∧ Q (.bl (!(Builtin.Str.occurrences j i 0 j.length 1).isEmpty)) H) ∨ rIn K false x y H Q ∨ rInY K false x y H Q ∨ rInDS K x y H Q ∨ rInCS K x y H Q
def rNinD' (K : PySem.W.Frag) : R2 := fun x y H Q => (∃ i j, x = .str i ∧ y = .str j ∧ Q (.bl (!(!(Builtin.Str.occurrences j i 0 j.length 1).isEmpty))) H) ∨ rIn K true x y H Q ∨ rInY K true x y H Q
theorem o_in {X : Cx} (hu : X.A.units + 65 < cLine) : OpR X (compareOp .In) (rInD' X.K) := op_in_str.or (op_in_seq.or ((op_inY hu).or ((op_inDS hu).or (op_inCS hu))))
theorem o_nin {X : Cx} (hu : X.A.units + 65 < cLine) : OpR X (compareOp .NotIn) (rNinD' X.K) := op_notIn_str.or (op_notIn_seq.or (op_ninY hu))
theorem seqOf_sq {K : PySem.W.Frag} {μ : List Addr} {G H : Hp} {v : V} {e : D} {ys : List D} (x : Ex G H) (r : Rp K μ G v e) (h : seqOf e = some ys) : ∃ p vs, v = .ref p ∧ (SqL K H p vs ∨ SqT K H p vs) ∧ RpA K μ G vs ys := by
  cases r with
  | tup h1 h2 => cases h; exact ⟨_, _, rfl, .inr (x.st h1), h2⟩
  | lst h1 h2 => cases h; exact ⟨_, _, rfl, .inl (SqL.of (x _ _ h1)), h2⟩
  | rol h1 h2 => cases h; exact ⟨_, _, rfl, .inl (x.sl h1), h2⟩
  | _ => cases h
theorem in_core {K : PySem.W.Frag} {neg : Bool} {μ : List Addr} {G H : Hp} {S S' : Sto} {x y : V} {d e z : D} {ys : List D} {Q : VK} (r : Rel K F μ S H G) (r1 : Rp K μ G x d) (r2 : Rp K μ G y e) (he : seqOf e = some ys)
    (hf : (if d.scal = true ∧ ys.all D.scal = true then some (D.bl (if neg then !(ys.any fun z => eqS z d) else ys.any fun z => eqS z d), S)
      else if d.cmpb = true ∧ e.cmpb = true then some (.bl (if neg then !((D.pys ys).any fun z => PyData.eqv z d.py) else (D.pys ys).any fun z => PyData.eqv z d.py), S)
      else if neg = false ∧ d.isDct = true ∧ ys.all D.isStr = true then some (.bl false, S)
      else if neg = false ∧ d.isRow = true ∧ ys.all D.isStr = true then some (.bl false, S) else none) = some (z, S'))
    (a : Aft K F μ G S' fun μ' G' H' => ∀ v, Rp K μ' G' v z → Q v H') : rIn K neg x y H Q ∨ rInY K neg x y H Q ∨ (neg = false ∧ (rInDS K x y H Q ∨ rInCS K x y H Q)) := by
  by_cases hs : d.scal = true ∧ ys.all D.scal = true
  · rw [if_pos hs] at hf
    cases hf
    obtain ⟨p, vs, rfl, hp, ha⟩ := seqOf_sq r.sub r2 he
    refine .inl ⟨p, vs, rfl, hp, scal_flat r1 hs.1, scals_flat ha hs.2, ?_⟩
    rw [inS_V r1 hs.1 ha hs.2]
    exact tD_now a r (.bl _)
  · rw [if_neg hs] at hf
    by_cases h : d.cmpb = true ∧ e.cmpb = true
    case neg =>
      rw [if_neg h] at hf
      by_cases hd : neg = false ∧ d.isDct = true ∧ ys.all D.isStr = true
      case neg =>
        rw [if_neg hd] at hf
        obtain ⟨⟨hn, h1, h2⟩, hz⟩ := ifs hf
        cases hz
        obtain ⟨p, vs, rfl, hp, ha⟩ := seqOf_sq r.sub r2 he
        obtain ⟨q, rfl, hq⟩ := isRow_at r.sub r1 h1
        exact .inr (.inr ⟨hn, .inr ⟨_, _, vs, rfl, hq, rfl, hp, isStrs_V ha h2, tD_now a r (.bl _)⟩⟩)
      rw [if_pos hd] at hf
      cases hf
      obtain ⟨hn, h1, h2⟩ := hd
      obtain ⟨p, vs, rfl, hp, ha⟩ := seqOf_sq r.sub r2 he
      cases d with
      | dct ks xs =>
        cases r1 with
        | dct g1 g2 g3 => exact .inr (.inr ⟨hn, .inl ⟨_, _, _, vs, rfl, r.sub _ _ g1, rfl, hp, isStrs_V ha h2, tD_now a r (.bl _)⟩⟩)
      | _ => cases h1
    rw [if_pos h] at hf
    cases hf
    refine .inr (.inl ⟨d.py, e.py, D.pys ys, r1.dp r.sub (D.cmpf h.1), r2.dp r.sub (D.cmpf h.2), ?_, D.shp h.1, D.shp h.2, tD_now a r (.bl _)⟩)
    cases e <;> first | (cases he; done) | (cases he; first | (refine .inr ?_; simp only [D.py]; done) | (refine .inl ?_; simp only [D.py]; done))
/-! in -/
theorem f_in {K : PySem.W.Frag} : OpD K (rInD' K) (fIn false) := by
  intro F μ G S H x y d e z S' Q r r1 r2 hf a
  unfold fIn at hf
  split at hf
  · cases r1
    cases r2
    cases hf
    exact .inl ⟨_, _, rfl, rfl, tD_now a r (.bl _)⟩
  · split at hf
    · rename_i ys he
      rcases in_core r r1 r2 he hf a with h | h | ⟨_, h⟩
      · exact .inr (.inl h)
      · exact .inr (.inr (.inl h))
      · exact .inr (.inr (.inr h))
    · cases hf
theorem f_nin {K : PySem.W.Frag} : OpD K (rNinD' K) (fIn true) := by
  intro F μ G S H x y d e z S' Q r r1 r2 hf a
  unfold fIn at hf
  split at hf
  · cases r1
    cases r2
    cases hf
    exact .inl ⟨_, _, rfl, rfl, tD_now a r (.bl _)⟩
  · split at hf
    · rename_i ys he
      rcases in_core r r1 r2 he hf a with h | h | ⟨h, _⟩
      · exact .inr (.inl h)
      · exact .inr (.inr h)
      · cases h
    · cases hf
def fIsN (neg : Bool) : MOp
  | .non, .non, S => some (.bl (!neg), S)
  | _, .non, S => some (.bl neg, S)
  | _, _, _ => none
theorem isN_V {K : PySem.W.Frag} {μ : List Addr} {G : Hp} {v : V} {d : D} (r : Rp K μ G v d) (S : Sto) : fIsN false d .non S = some (.bl (decide (v = .non)), S) ∧ fIsN true d .non S = some (.bl (!decide (v = .non)), S) := by
  cases r <;> exact ⟨rfl, rfl⟩
theorem f_isN {K : PySem.W.Frag} : OpD K (fun x y H Q => y = .non ∧ Q (.bl (decide (x = .non))) H) (fIsN false) := by
  intro F μ G S H x y d e z S' Q r r1 r2 hf a
  cases e with
  | non =>
    cases r2
    rw [(isN_V r1 S).1] at hf
    cases hf
    exact ⟨rfl, tD_now a r (.bl _)⟩
  | _ => cases d <;> cases hf
theorem f_notN {K : PySem.W.Frag} : OpD K (fun x y H Q => y = .non ∧ Q (.bl (!decide (x = .non))) H) (fIsN true) := by
  intro F μ G S H x y d e z S' Q r r1 r2 hf a
  cases e with
  | non =>
    cases r2
    rw [(isN_V r1 S).2] at hf
    cases hf
    exact ⟨rfl, tD_now a r (.bl _)⟩
  | _ => cases d <;> cases hf
/-- an item -/
def fIx : MOp := fun d e S => match d, e with
  | .loc n, .int i => match S[n]? with
    | some (some c) => (atI c i).map fun z => (z, S)
    | _ => none
  | .str x, .int i => if x.length ≤ 1000000 then (atI x.cps.toList i).map fun c => (.str ⟨#[c]⟩, S) else none
  | d, .int i => match seqOf d with
    | some c => (atI c i).map fun z => (z, S)
    | none => none
  | _, _ => none
theorem atI_rp {K : PySem.W.Frag} {μ : List Addr} {G : Hp} {vs : List V} {ds : List D} {i : Int} {z : D} (r : RpA K μ G vs ds) (h : atI ds i = some z) : ∃ v, atI vs i = some v ∧ Rp K μ G v z := by
  unfold atI at h ⊢
  rw [r.len]
  cases e : ixN ds.length i with
  | none =>
    rw [e] at h
    cases h
  | some j =>
    rw [e] at h
    exact r.get h
theorem f_ix {K : PySem.W.Frag} : OpD K (rIx K) fIx := by
  intro F μ G S H x y d e z S' Q r r1 r2 hf a
  unfold fIx at hf
  split at hf
  · rename_i n i
    cases r2
    cases r1 with
    | loc hm =>
      split at hf
      · rename_i c hc
        cases hz : atI c i with
        | none =>
          rw [hz] at hf
          cases hf
        | some z' =>
          rw [hz] at hf
          cases hf
          obtain ⟨b, vs, h1, h2, h3, h4⟩ := r.cell n c hc
          rw [hm] at h1
          cases h1
          obtain ⟨v, g1, g2⟩ := atI_rp h3 hz
          exact .inl ⟨_, vs, i, v, rfl, rfl, SqL.of h2, g1, tD_now a r g2⟩
      · cases hf
  · rename_i x' i
    cases r1
    cases r2
    split at hf
    · rename_i hl
      cases hz : atI x'.cps.toList i with
      | none =>
        rw [hz] at hf
        cases hf
      | some z' =>
        rw [hz] at hf
        cases hf
        exact .inr (.inr ⟨x', i, z', rfl, rfl, sz6 hl, hz, tD_now a r (.str _)⟩)
    · cases hf
  · rename_i d' i _ _
    cases r2
    split at hf
    · rename_i c hc
      cases hz : atI c i with
      | none =>
        rw [hz] at hf
        cases hf
      | some z' =>
        rw [hz] at hf
        cases hf
        obtain ⟨p, vs, rfl, hs, ha⟩ := seqOf_sq r.sub r1 hc
        obtain ⟨v, g1, g2⟩ := atI_rp ha hz
        rcases hs with hs | hs
        · exact .inl ⟨p, vs, i, v, rfl, rfl, hs, g1, tD_now a r g2⟩
        · exact .inr (.inl ⟨p, vs, i, v, rfl, rfl, hs, g1, tD_now a r g2⟩)
    · cases hf
  · cases hf
theorem d_ix {X : Cx} {a b : Expr} {m1 m2 : ME} {pos : Pos} (h1 : PE X a (tD X.K m1)) (h2 : PE X b (tD X.K m2)) (hs : PlainIx b := by exact fun _ _ => rfl) : PE X (.Subscript a b pos) (tD X.K (mBin fIx m1 m2)) :=
  (pe_ix ix_seq h1 h2 hs).weak (bin_weak f_ix)
end DL
/-! DLc -/
/-! DL: lists of arguments, displays, slices, tests, statements. -/
namespace DL
open PySem PySem.Spec PyProof.Rows L2
variable {F : Hp}

theorem bindS {α β : Type} {x : Option α} {f : α → Option β} {b : β} (h : x.bind f = some b) : ∃ a, x = some a ∧ f a = some b := by
  cases x with
  | none => cases h
  | some a => exact ⟨a, rfl, h⟩
section
variable {X : Cx} {K : PySem.W.Frag} {pos : Pos}
/-! ### arguments -/
def mNil : MA := fun _ S => some ([], S)
def mCons (m : ME) (r : MA) : MA := fun ρ S => (m ρ S).bind fun p => (r ρ p.2).bind fun q => some (p.1 :: q.1, q.2)
theorem a_nil : PA X [] (tDA X.K mNil) := pa_nil.weak fun σ H Q ⟨F, μ, G, S, ρ, d, S', r, re, e, a⟩ => by
  cases e
  exact a μ G H (Pf.refl _) (Ex.refl _) r _ .nil
theorem a_cons {e : Expr} {es : List Expr} {m : ME} {n : MA} (h : PE X e (tD X.K m)) (t : PA X es (tDA X.K n)) (hs : starEach (e :: es) X.env = (false, eval e X.env) :: starEach es X.env := by rfl) : PA X (e :: es) (tDA X.K (mCons m n)) :=
  (pa_cons h t hs).weak fun σ H Q ⟨F, μ, G, S, ρ, d, S', r, re, e, a⟩ => by
    obtain ⟨⟨d1, S1⟩, e1, e⟩ := bindS e
    obtain ⟨⟨d2, S2⟩, e2, e⟩ := bindS e
    cases e
    refine ⟨F, μ, G, S, ρ, d1, S1, r, re, e1, fun μ1 G1 H1 p1 x1 q1 v1 r1 => ?_⟩
    refine ⟨F, μ1, G1, S1, ρ, d2, S2, q1, re.mono p1 x1, e2, fun μ2 G2 H2 p2 x2 q2 v2 r2 => ?_⟩
    exact a μ2 G2 H2 (p1.trans p2) (x1.trans x2) q2 _ (.cons (r1.mono p2 x2) r2)
/-! ### displays -/
def mTup (m : MA) : ME := fun ρ S => (m ρ S).bind fun p => if p.1.length ≤ 1000000 then some (.tup p.1, p.2) else none
def mLst (m : MA) : ME := fun ρ S => (m ρ S).bind fun p => if p.1.length ≤ 1000000 then some (.lst p.1, p.2) else none
/-- a list that will change: a place of the store -/
def mCel (m : MA) : ME := fun ρ S => (m ρ S).bind fun p => if p.1.length ≤ 1000000 then some (.loc p.2.length, p.2 ++ [some p.1]) else none
theorem d_tup {es : List Expr} {m : MA} {k : Nat} (h : PA X es (tDA X.K m)) : PE X (.Tuple es k pos) (tD X.K (mTup m)) :=
  (pe_tup h).weak fun σ H Q ⟨F, μ, G, S, ρ, d, S', r, re, e, a⟩ => by
    obtain ⟨⟨d1, S1⟩, e1, e⟩ := bindS e
    obtain ⟨hl, e⟩ := ifs e
    cases e
    refine ⟨F, μ, G, S, ρ, d1, S1, r, re, e1, fun μ1 G1 H1 p1 x1 q1 v1 r1 => ?_⟩
    exact ⟨by rw [r1.len]; exact sz6 hl, fun p hp => tD_new (a.mono p1 x1) q1 hp (.tup (SqT.of upd_same) (r1.mono (Pf.refl _) (Ex.new (q1.sub.back hp))))⟩
theorem d_lst {es : List Expr} {m : MA} (h : PA X es (tDA X.K m)) : PE X (.List es pos) (tD X.K (mLst m)) :=
  (pe_lst h).weak fun σ H Q ⟨F, μ, G, S, ρ, d, S', r, re, e, a⟩ => by
    obtain ⟨⟨d1, S1⟩, e1, e⟩ := bindS e
    obtain ⟨hl, e⟩ := ifs e
    cases e
    refine ⟨F, μ, G, S, ρ, d1, S1, r, re, e1, fun μ1 G1 H1 p1 x1 q1 v1 r1 => ?_⟩
    exact ⟨by rw [r1.len]; exact sz6 hl, fun p hp => tD_new (a.mono p1 x1) q1 hp (.lst upd_same (r1.mono (Pf.refl _) (Ex.new (q1.sub.back hp))))⟩
theorem Rel.cellNew {μ : List Addr} {S : Sto} {H G : Hp} {p : Addr} {vs : List V} {c : List D} (r : Rel K F μ S H G) (hp : H p = none) (h : RpA K μ G vs c) : Rel K F (μ ++ [p]) (S ++ [some c]) (upd H p (.lst vs)) G where
  sub := r.sub.off (r.sub.back hp)
  len := by rw [List.length_append, List.length_append, r.len]; rfl
  cell := fun n c' e => by
    by_cases hn : n < S.length
    · rw [List.getElem?_append_left hn] at e
      obtain ⟨a, ws, h1, h2, h3, h4⟩ := r.cell n c' e
      have ne : a ≠ p := ne_of_none h2 hp
      exact ⟨a, ws, by rw [List.getElem?_append_left (by rw [r.len]; exact hn)]; exact h1, by rw [upd_ne ne]; exact h2, h3.mono ⟨[p], rfl⟩ (Ex.refl _), h4⟩
    · have hn' : n = S.length := by
        obtain ⟨h1, _⟩ := List.getElem?_eq_some_iff.mp e
        rw [List.length_append, List.length_singleton] at h1
        omega
      subst hn'
      rw [List.getElem?_append_right (Nat.le_refl _), Nat.sub_self] at e
      cases e
      exact ⟨p, vs, by rw [List.getElem?_append_right (by rw [r.len]; exact Nat.le_refl _), r.len, Nat.sub_self]; rfl, upd_same, h.mono ⟨[p], rfl⟩ (Ex.refl _), r.sub.back hp⟩
  inj := fun n m a h1 h2 => by
    have key : ∀ {k : Nat} {b : Addr}, (μ ++ [p])[k]? = some b → (k < μ.length ∧ μ[k]? = some b) ∨ (k = μ.length ∧ b = p) := fun {k b} e => by
      by_cases hk : k < μ.length
      · rw [List.getElem?_append_left hk] at e
        exact .inl ⟨hk, e⟩
      · obtain ⟨hl, _⟩ := List.getElem?_eq_some_iff.mp e
        rw [List.length_append, List.length_singleton] at hl
        have : k = μ.length := by omega
        subst this
        rw [List.getElem?_append_right (Nat.le_refl _), Nat.sub_self] at e
        cases e
        exact .inr ⟨rfl, rfl⟩
    rcases key h1 with ⟨k1, g1⟩ | ⟨k1, g1⟩
    · rcases key h2 with ⟨k2, g2⟩ | ⟨k2, g2⟩
      · exact r.inj n m a g1 g2
      · subst g2
        exact absurd hp (r.trk _ (List.mem_of_getElem? g1))
    · rcases key h2 with ⟨k2, g2⟩ | ⟨k2, g2⟩
      · subst g1
        exact absurd hp (r.trk _ (List.mem_of_getElem? g2))
      · rw [k1, k2]
  trk := fun a ha z => by
    rcases List.mem_append.mp ha with h1 | h1
    · have hn : a ≠ p := fun q => r.trk a h1 (q ▸ hp)
      rw [upd_ne hn] at z
      exact r.trk a h1 z
    · have hn : a = p := by simpa using h1
      rw [hn, upd_same] at z
      cases z
  frm := r.frm.off (r.frm.back hp)
  frd := fun a u e => by
    have hn : a ≠ p := fun q => by
      rw [q, r.frm.back hp] at e
      cases e
    refine ⟨(r.frd a u e).1, fun z => ?_⟩
    rcases List.mem_append.mp z with h1 | h1
    · exact (r.frd a u e).2 h1
    · exact hn (by simpa using h1)
theorem d_cel {es : List Expr} {m : MA} (h : PA X es (tDA X.K m)) : PE X (.List es pos) (tD X.K (mCel m)) :=
  (pe_lst h).weak fun σ H Q ⟨F, μ, G, S, ρ, d, S', r, re, e, a⟩ => by
    obtain ⟨⟨d1, S1⟩, e1, e⟩ := bindS e
    obtain ⟨hl, e⟩ := ifs e
    cases e
    refine ⟨F, μ, G, S, ρ, d1, S1, r, re, e1, fun μ1 G1 H1 p1 x1 q1 v1 r1 => ?_⟩
    refine ⟨by rw [r1.len]; exact sz6 hl, fun p hp => ?_⟩
    refine a (μ1 ++ [p]) G1 _ (p1.trans ⟨[p], rfl⟩) x1 (q1.cellNew hp r1) _ (.loc ?_)
    have hq : μ1.length = S1.length := q1.len
    rw [← hq, List.getElem?_append_right (Nat.le_refl _), Nat.sub_self]
    rfl

/-! ### slices -/
abbrev MO := Env' → Sto → Option (Option Int × Sto)
def tDO (K : PySem.W.Frag) (m : MO) : TO := fun σ H Q => ∃ F μ G S ρ d S', Rel K F μ S H G ∧ REnv K μ G σ ρ ∧ m ρ S = some (d, S') ∧ Aft K F μ G S' fun _ _ H' => Q d H'
theorem _root_.L2.PO.weak {X : Cx} {e : Option Expr} {t t' : TO} (h : PO X e t) (w : ∀ σ H Q, t' σ H Q → t σ H Q) : PO X e t' := ⟨fun pins s σ H Q I q => h.run pins s σ H Q I (w σ H Q q)⟩
def mNoPart : MO := fun _ S => some (none, S)
def mPart (m : ME) : MO := fun ρ S => (m ρ S).bind fun p => match p.1 with
  | .int i => some (some i, p.2)
  | _ => none
theorem o_none : PO X none (tDO X.K mNoPart) := po_none.weak fun σ H Q ⟨F, μ, G, S, ρ, d, S', r, re, e, a⟩ => by
  cases e
  exact a μ G H (Pf.refl _) (Ex.refl _) r
theorem o_some {e : Expr} {m : ME} (h : PE X e (tD X.K m)) : PO X (some e) (tDO X.K (mPart m)) := (po_some h).weak fun σ H Q ⟨F, μ, G, S, ρ, d, S', r, re, e, a⟩ => by
  obtain ⟨⟨d1, S1⟩, e1, e⟩ := bindS e
  cases d1 with
  | int i =>
    cases e
    refine ⟨F, μ, G, S, ρ, _, S1, r, re, e1, fun μ1 G1 H1 p1 x1 q1 v1 r1 => ?_⟩
    cases r1
    exact ⟨i, rfl, a μ1 G1 H1 p1 x1 q1⟩
  | _ => cases e
def cutD (xs : List D) (lo hi : Option Int) : List D := (xs.drop (HT.sIx xs.length 0 lo)).take (HT.sIx xs.length xs.length hi - HT.sIx xs.length 0 lo)
def fSl (d : D) (lo hi : Option Int) : Option D := match d with
  | .lst xs => some (.lst (cutD xs lo hi))
  | .rol xs => some (.lst (cutD xs lo hi))
  | .tup xs => some (.tup (cutD xs lo hi))
  | .str x => if x.length ≤ 1000000 then some (.str (cutS x lo hi)) else none
  | _ => none
def mSl (m : ME) (l h : MO) : ME := fun ρ S => (m ρ S).bind fun p => (l ρ p.2).bind fun q => (h ρ q.2).bind fun t => (fSl p.1 q.1 t.1).map fun z => (z, t.2)
def rSlD (K : PySem.W.Frag) : V → Option Int → Option Int → Hp → VK → Prop := fun x lo hi H Q => rSlL K x lo hi H Q ∨ rSlA K x lo hi H Q ∨ (∃ z, x = .str z ∧ z.length ≤ sizeLine ∧ Q (.str (cutS z lo hi)) H)
theorem RpA.cut {μ : List Addr} {G : Hp} {vs : List V} {ds : List D} (h : RpA K μ G vs ds) (lo hi : Option Int) : RpA K μ G (cutV vs lo hi) (cutD ds lo hi) := by
  unfold cutV cutD
  rw [h.len]
  exact (h.drop _).take _
theorem cut_whole {xs : List V} {lo hi : Option Int} (h : HT.sIx xs.length 0 lo = 0 ∧ HT.sIx xs.length xs.length hi = xs.length) : cutV xs lo hi = xs := by
  unfold cutV
  rw [h.1, h.2, List.drop_zero, Nat.sub_zero, List.take_length]
theorem f_sl {μ : List Addr} {G H : Hp} {S : Sto} {x : V} {d z : D} {lo hi : Option Int} {Q : VK} (r : Rel K F μ S H G) (r1 : Rp K μ G x d) (hf : fSl d lo hi = some z) (a : Aft K F μ G S fun μ' G' H' => ∀ v, Rp K μ' G' v z → Q v H') : rSlD K x lo hi H Q := by
  cases r1 with
  | lst h1 h2 =>
    cases hf
    exact .inl ⟨_, _, rfl, SqL.of (r.sub _ _ h1), fun p hp => tD_new a r hp (.lst upd_same ((h2.cut lo hi).mono (Pf.refl _) (Ex.new (r.sub.back hp))))⟩
  | rol h1 h2 =>
    cases hf
    exact .inl ⟨_, _, rfl, r.sub.sl h1, fun p hp => tD_new a r hp (.lst upd_same ((h2.cut lo hi).mono (Pf.refl _) (Ex.new (r.sub.back hp))))⟩
  | tup h1 h2 =>
    cases hf
    refine .inr (.inl ⟨_, _, rfl, r.sub.st h1, fun hw => ?_, fun _ p hp => tD_new a r hp (.tup (SqT.of upd_same) ((h2.cut lo hi).mono (Pf.refl _) (Ex.new (r.sub.back hp))))⟩)
    have hc := h2.cut lo hi
    rw [cut_whole hw] at hc
    exact tD_now a r (.tup h1 hc)
  | str s =>
    obtain ⟨hl, hz⟩ := ifs hf
    cases hz
    exact .inr (.inr ⟨s, rfl, sz6 hl, tD_now a r (.str _)⟩)
  | _ => cases hf
end
end DL
/-! DLd -/
/-! DL: tests, statements, loops. -/
namespace DL
open PySem PySem.Spec PyProof.Rows L2
variable {F : Hp}
section
variable {X : Cx} {K : PySem.W.Frag} {pos : Pos}
theorem d_sl {e : Expr} {lo hi : Option Expr} {m : ME} {l h : MO} {p2 : Pos} (he : PE X e (tD X.K m)) (hl : PO X lo (tDO X.K l)) (hh : PO X hi (tDO X.K h)) : PE X (.Subscript e (.Slice lo hi none p2) pos) (tD X.K (mSl m l h)) :=
  (pe_slice (r := rSlD X.K) (sl_list.or (sl_tupA.or sl_str)) he hl hh).weak fun σ H Q ⟨F, μ, G, S, ρ, d, S', r, re, e, a⟩ => by
    obtain ⟨⟨d1, S1⟩, e1, e⟩ := bindS e
    obtain ⟨⟨d2, S2⟩, e2, e⟩ := bindS e
    obtain ⟨⟨d3, S3⟩, e3, e⟩ := bindS e
    cases hz : fSl d1 d2 d3 with
    | none =>
      have e : (fSl d1 d2 d3).map (fun z => (z, S3)) = some (d, S') := e
      rw [hz] at e
      cases e
    | some z =>
      have e : (fSl d1 d2 d3).map (fun z => (z, S3)) = some (d, S') := e
      rw [hz] at e
      cases e
      refine ⟨F, μ, G, S, ρ, d1, S1, r, re, e1, fun μ1 G1 H1 p1 x1 q1 v1 r1 => ?_⟩
      refine ⟨F, μ1, G1, S1, ρ, d2, S2, q1, re.mono p1 x1, e2, fun μ2 G2 H2 p2 x2 q2 => ?_⟩
      refine ⟨F, μ2, G2, S2, ρ, d3, _, q2, re.mono (p1.trans p2) (x1.trans x2), e3, fun μ3 G3 H3 p3 x3 q3 => ?_⟩
      exact f_sl q3 (r1.mono (p2.trans p3) (x2.trans x3)) hz (a.mono ((p1.trans p2).trans p3) ((x1.trans x2).trans x3))

/-! ### operators that say a truth, as tests -/
def mBl (m : ME) : MT := fun ρ S => (m ρ S).bind fun p => match p.1 with
  | .bl b => some (b, p.2)
  | _ => none
theorem tB_weak {m : ME} : ∀ σ H Q, tDT K (mBl m) σ H Q → tTest (tD K m) σ H Q := by
  rintro σ H Q ⟨F, μ, G, S, ρ, d, S', r, re, e, a⟩
  obtain ⟨⟨d1, S1⟩, e1, e⟩ := bindS e
  cases d1 with
  | bl b =>
    cases e
    refine ⟨F, μ, G, S, ρ, _, S1, r, re, e1, fun μ1 G1 H1 p1 x1 q1 v1 r1 => ?_⟩
    cases r1
    exact ⟨_, rfl, a μ1 G1 H1 p1 x1 q1⟩
  | _ => cases e
theorem tTest_mono {t t' : TE} (w : ∀ σ H Q, t' σ H Q → t σ H Q) : ∀ σ H Q, tTest t' σ H Q → tTest t σ H Q := fun σ H Q h => w σ H _ h
/-- a op b, a comparison, as a value, as a test -/
theorem d_cmp {op : CmpOp} {r : R2} {f : MOp} {a b : Expr} {m1 m2 : ME} (ho : OpR X (compareOp op) r) (h : OpD X.K r f) (h1 : PE X a (tD X.K m1)) (h2 : PE X b (tD X.K m2)) (hm : behindInMarks op b = false) : PE X (.Compare a [op] [b] pos) (tD X.K (mBin f m1 m2)) :=
  (pe_cmpR ho h1 h2 hm).weak (bin_weak h)
theorem t_cmp {op : CmpOp} {r : R2} {f : MOp} {a b : Expr} {m1 m2 : ME} (ho : OpR X (compareOp op) r) (h : OpD X.K r f) (h1 : PE X a (tD X.K m1)) (h2 : PE X b (tD X.K m2)) (hm : behindInMarks op b = false) : PT X (.Compare a [op] [b] pos) (tDT X.K (mBl (mBin f m1 m2))) :=
  (pt_cmpR ho h1 h2 hm).weak fun σ H Q q => tTest_mono (bin_weak h) σ H Q (tB_weak σ H Q q)
/-- a < b <= c -/
def mChn (f g : MOp) (m1 m2 m3 : ME) : ME := fun ρ S => (m1 ρ S).bind fun p => (m2 ρ p.2).bind fun q => (f p.1 q.1 q.2).bind fun t => match t.1 with
  | .bl true => (m3 ρ t.2).bind fun u => g q.1 u.1 u.2
  | .bl false => some (.bl false, t.2)
  | _ => none
theorem chn_weak {r r' : R2} {f g : MOp} {m1 m2 m3 : ME} (hf : OpD K r f) (hg : OpD K r' g) (hfr : ∀ d e S z S', f d e S = some (z, S') → ∃ b, z = .bl b) : ∀ σ H Q, tD K (mChn f g m1 m2 m3) σ H Q → tChain r r' (tD K m1) (tD K m2) (tD K m3) σ H Q := by
  rintro σ H Q ⟨F, μ, G, S, ρ, d, S', q, re, e, a⟩
  obtain ⟨⟨d1, S1⟩, e1, e⟩ := bindS e
  obtain ⟨⟨d2, S2⟩, e2, e⟩ := bindS e
  obtain ⟨⟨d3, S3⟩, e3, e⟩ := bindS e
  refine ⟨F, μ, G, S, ρ, d1, S1, q, re, e1, fun μ1 G1 H1 p1 x1 q1 v1 r1 => ?_⟩
  refine ⟨F, μ1, G1, S1, ρ, d2, S2, q1, re.mono p1 x1, e2, fun μ2 G2 H2 p2 x2 q2 v2 r2 => ?_⟩
  obtain ⟨b, rfl⟩ := hfr _ _ _ _ _ e3
  refine hf F μ2 G2 S2 H2 v1 v2 d1 d2 _ S3 _ q2 (r1.mono p2 x2) r2 e3 fun μ3 G3 H3 p3 x3 q3 v3 r3 => ?_
  cases r3
  refine ⟨b, rfl, ?_⟩
  cases b with
  | true =>
    have e : (m3 ρ S3).bind (fun u => g d2 u.1 u.2) = some (d, S') := e
    obtain ⟨⟨d4, S4⟩, e4, e⟩ := bindS e
    have e : g d2 d4 S4 = some (d, S') := e
    show tD K m3 σ H3 fun z H4 => r' v2 z H4 Q
    refine ⟨F, μ3, G3, S3, ρ, d4, S4, q3, re.mono ((p1.trans p2).trans p3) ((x1.trans x2).trans x3), e4, fun μ4 G4 H4 p4 x4 q4 v4 r4 => ?_⟩
    exact hg F μ4 G4 S4 H4 v2 v4 d2 d4 d S' Q q4 (r2.mono (p3.trans p4) (x3.trans x4)) r4 e (a.mono (((p1.trans p2).trans p3).trans p4) (((x1.trans x2).trans x3).trans x4))
  | false =>
    cases e
    show Q (.bl false) H3
    exact a μ3 G3 H3 ((p1.trans p2).trans p3) ((x1.trans x2).trans x3) q3 _ (.bl false)
theorem fCmp_bl {g : Int → Int → Bool} : ∀ d e S z S', fCmp g d e S = some (z, S') → ∃ b, z = .bl b := by
  intro d e S z S' h
  cases d with
  | int i =>
    cases e with
    | int j =>
      cases h
      exact ⟨_, rfl⟩
    | _ => cases h
  | _ => cases h
theorem d_chn {op op' : CmpOp} {r r' : R2} {f g : MOp} {a b c : Expr} {m1 m2 m3 : ME} (ho : OpR X (compareOp op) r) (ho' : OpR X (compareOp op') r') (hf : OpD X.K r f) (hg : OpD X.K r' g) (hfr : ∀ d e S z S', f d e S = some (z, S') → ∃ b, z = .bl b)
    (h1 : PE X a (tD X.K m1)) (h2 : PE X b (tD X.K m2)) (h3 : PE X c (tD X.K m3)) (hm : lastMarks [op, op'] [b, c] = false := by with_unfolding_all rfl) : PE X (.Compare a [op, op'] [b, c] pos) (tD X.K (mChn f g m1 m2 m3)) :=
  (pe_chain ho ho' h1 h2 h3 hm).weak (chn_weak hf hg hfr)
theorem t_chn {op op' : CmpOp} {r r' : R2} {f g : MOp} {a b c : Expr} {m1 m2 m3 : ME} (ho : OpR X (compareOp op) r) (ho' : OpR X (compareOp op') r') (hf : OpD X.K r f) (hg : OpD X.K r' g) (hfr : ∀ d e S z S', f d e S = some (z, S') → ∃ b, z = .bl b)
    (h1 : PE X a (tD X.K m1)) (h2 : PE X b (tD X.K m2)) (h3 : PE X c (tD X.K m3)) (hm : lastMarks [op, op'] [b, c] = false := by with_unfolding_all rfl) : PT X (.Compare a [op, op'] [b, c] pos) (tDT X.K (mBl (mChn f g m1 m2 m3))) :=
  (pt_chain ho ho' h1 h2 h3 hm).weak fun σ H Q q => tTest_mono (chn_weak hf hg hfr) σ H Q (tB_weak σ H Q q)

/-! ### truth of any value -/
def trD (d : D) (S : Sto) : Option Bool := match d with
  | .non => some false
  | .bl b => some b
  | .int i => some (i != 0)
  | .str y => if y.length ≤ 1000000 then some ((y.length : Int) != 0) else none
  | .tup xs => some (!xs.isEmpty)
  | .lst xs => some (!xs.isEmpty)
  | .rol xs => some (!xs.isEmpty)
  | .loc n => match S[n]? with
    | some (some c) => some (!c.isEmpty)
    | _ => none
  | .dct ks _ => some (!ks.isEmpty)
def mTr (m : ME) : MT := fun ρ S => (m ρ S).bind fun p => (trD p.1 p.2).map fun b => (b, p.2)
theorem RpA.emp {μ : List Addr} {G : Hp} {vs : List V} {ds : List D} (h : RpA K μ G vs ds) : vs.isEmpty = ds.isEmpty := by
  cases h <;> rfl
theorem trD_V {μ : List Addr} {G H : Hp} {S : Sto} {v : V} {d : D} {b : Bool} (r : Rel K F μ S H G) (q : Rp K μ G v d) (h : trD d S = some b) : TruV K v H b := by
  cases q with
  | non => cases h; rfl
  | bl _ => cases h; rfl
  | int _ => cases h; rfl
  | str s =>
    obtain ⟨h1, h2⟩ := ifs h
    exact ⟨sz6 h1, h2.symm⟩
  | tup h1 h2 =>
    cases h
    exact .inr (.inl ⟨_, r.sub.st h1, by rw [h2.emp]⟩)
  | lst h1 h2 =>
    cases h
    exact .inl ⟨_, SqL.of (r.sub _ _ h1), by rw [h2.emp]⟩
  | rol h1 h2 =>
    cases h
    exact .inl ⟨_, r.sub.sl h1, by rw [h2.emp]⟩
  | dct h1 h2 h3 =>
    cases h
    refine .inr (.inr ⟨_, r.sub _ _ h1, ?_⟩)
    rename_i ks xs ds
    cases ks with
    | nil => rfl
    | cons k ks =>
      cases xs with
      | nil => cases h3
      | cons x xs => rfl
  | @loc a n hm =>
    unfold trD at h
    simp only at h
    split at h
    · rename_i c hc
      cases h
      obtain ⟨b', vs, h1, h2, h3, h4⟩ := r.cell n c hc
      rw [hm] at h1
      cases h1
      exact .inl ⟨vs, SqL.of h2, by rw [h3.emp]⟩
    · cases h
theorem t_tr {e : Expr} {m : ME} (h : PE X e (tD X.K m)) (he : ∀ whole, isTrue e X.env whole = (do let v ← whole; standAt e.pos; holding [v] (truthy v)) := by intro _; rfl) : PT X e (tDT X.K (mTr m)) :=
  (pt_truth h he).weak fun σ H Q ⟨F, μ, G, S, ρ, d, S', r, re, e, a⟩ => by
    obtain ⟨⟨d1, S1⟩, e1, e⟩ := bindS e
    cases hb : trD d1 S1 with
    | none =>
      have e : (trD d1 S1).map (fun b => (b, S1)) = some (d, S') := e
      rw [hb] at e
      cases e
    | some b =>
      have e : (trD d1 S1).map (fun b => (b, S1)) = some (d, S') := e
      rw [hb] at e
      cases e
      exact ⟨F, μ, G, S, ρ, _, _, r, re, e1, fun μ1 G1 H1 p1 x1 q1 v1 r1 => ⟨_, trD_V q1 r1 hb, a μ1 G1 H1 p1 x1 q1⟩⟩

/-! ### and, or, not, if -/
def mAndT (a b : MT) : MT := fun ρ S => (a ρ S).bind fun p => if p.1 then b ρ p.2 else some (false, p.2)
def mOrT (a b : MT) : MT := fun ρ S => (a ρ S).bind fun p => if p.1 then some (true, p.2) else b ρ p.2
def mNotT (a : MT) : MT := fun ρ S => (a ρ S).map fun p => (!p.1, p.2)
variable {rest : List Expr} {a b c e : Expr} {x y z : MT} {m n : ME}
theorem w_and1 (h : PT X a (tDT X.K x)) : PW X (.BoolOp .And [a] pos) (tDT X.K x) := pw_and1 h
theorem w_or1 (h : PT X a (tDT X.K x)) : PW X (.BoolOp .Or [a] pos) (tDT X.K x) := pw_or1 h
theorem w_and (h1 : PT X a (tDT X.K x)) (h2 : PW X (.BoolOp .And (b :: rest) pos) (tDT X.K y)) : PW X (.BoolOp .And (a :: b :: rest) pos) (tDT X.K (mAndT x y)) :=
  (pw_and h1 h2).weak fun σ H Q ⟨F, μ, G, S, ρ, d, S', r, re, e, k⟩ => by
    obtain ⟨⟨d1, S1⟩, e1, e⟩ := bindS e
    refine ⟨F, μ, G, S, ρ, d1, S1, r, re, e1, fun μ1 G1 H1 p1 x1 q1 => ?_⟩
    cases d1 with
    | true =>
      show tDT X.K y σ H1 Q
      exact ⟨F, μ1, G1, S1, ρ, d, S', q1, re.mono p1 x1, e, k.mono p1 x1⟩
    | false =>
      cases e
      exact k μ1 G1 H1 p1 x1 q1
theorem w_or (h1 : PT X a (tDT X.K x)) (h2 : PW X (.BoolOp .Or (b :: rest) pos) (tDT X.K y)) : PW X (.BoolOp .Or (a :: b :: rest) pos) (tDT X.K (mOrT x y)) :=
  (pw_or h1 h2).weak fun σ H Q ⟨F, μ, G, S, ρ, d, S', r, re, e, k⟩ => by
    obtain ⟨⟨d1, S1⟩, e1, e⟩ := bindS e
    refine ⟨F, μ, G, S, ρ, d1, S1, r, re, e1, fun μ1 G1 H1 p1 x1 q1 => ?_⟩
    cases d1 with
    | false =>
      show tDT X.K y σ H1 Q
      exact ⟨F, μ1, G1, S1, ρ, d, S', q1, re.mono p1 x1, e, k.mono p1 x1⟩
    | true =>
      cases e
      exact k μ1 G1 H1 p1 x1 q1
theorem t_not (h : PT X a (tDT X.K x)) : PT X (.UnaryOp .Not a pos) (tDT X.K (mNotT x)) :=
  (pt_not h).weak fun σ H Q ⟨F, μ, G, S, ρ, d, S', r, re, e, k⟩ => by
    unfold mNotT at e
    cases e1 : x ρ S with
    | none =>
      rw [e1] at e
      cases e
    | some p =>
      rw [e1] at e
      cases e
      exact ⟨F, μ, G, S, ρ, p.1, p.2, r, re, e1, fun μ1 G1 H1 p1 x1 q1 => k μ1 G1 H1 p1 x1 q1⟩
/-- as values: all but the last True or False -/
def mAndV (a b : ME) : ME := fun ρ S => (a ρ S).bind fun p => match p.1 with
  | .bl true => b ρ p.2
  | .bl false => some (.bl false, p.2)
  | _ => none
def mOrV (a b : ME) : ME := fun ρ S => (a ρ S).bind fun p => match p.1 with
  | .bl true => some (.bl true, p.2)
  | .bl false => b ρ p.2
  | _ => none
def mNotV (a : ME) : ME := fun ρ S => (a ρ S).bind fun p => match p.1 with
  | .bl b => some (.bl (!b), p.2)
  | _ => none
theorem d_one {op} (h : PE X a (tD X.K m)) : PE X (.BoolOp op [a] pos) (tD X.K m) := pe_one h
theorem d_and (h1 : PE X a (tD X.K m)) (h2 : PE X (.BoolOp .And (b :: rest) pos) (tD X.K n)) : PE X (.BoolOp .And (a :: b :: rest) pos) (tD X.K (mAndV m n)) :=
  (pe_and h1 h2).weak fun σ H Q ⟨F, μ, G, S, ρ, d, S', r, re, e, k⟩ => by
    obtain ⟨⟨d1, S1⟩, e1, e⟩ := bindS e
    refine ⟨F, μ, G, S, ρ, d1, S1, r, re, e1, fun μ1 G1 H1 p1 x1 q1 v1 r1 => ?_⟩
    cases r1 with
    | bl b =>
      refine ⟨b, rfl, ?_⟩
      cases b with
      | true =>
        show tD X.K n σ H1 Q
        exact ⟨F, μ1, G1, S1, ρ, d, S', q1, re.mono p1 x1, e, k.mono p1 x1⟩
      | false =>
        cases e
        exact k μ1 G1 H1 p1 x1 q1 _ (.bl false)
    | _ => cases e
theorem d_or (h1 : PE X a (tD X.K m)) (h2 : PE X (.BoolOp .Or (b :: rest) pos) (tD X.K n)) : PE X (.BoolOp .Or (a :: b :: rest) pos) (tD X.K (mOrV m n)) :=
  (pe_or h1 h2).weak fun σ H Q ⟨F, μ, G, S, ρ, d, S', r, re, e, k⟩ => by
    obtain ⟨⟨d1, S1⟩, e1, e⟩ := bindS e
    refine ⟨F, μ, G, S, ρ, d1, S1, r, re, e1, fun μ1 G1 H1 p1 x1 q1 v1 r1 => ?_⟩
    cases r1 with
    | bl b =>
      refine ⟨b, rfl, ?_⟩
      cases b with
      | false =>
        show tD X.K n σ H1 Q
        exact ⟨F, μ1, G1, S1, ρ, d, S', q1, re.mono p1 x1, e, k.mono p1 x1⟩
      | true =>
        cases e
        exact k μ1 G1 H1 p1 x1 q1 _ (.bl true)
    | _ => cases e
theorem d_not (h : PE X a (tD X.K m)) : PE X (.UnaryOp .Not a pos) (tD X.K (mNotV m)) :=
  (pe_not h).weak fun σ H Q ⟨F, μ, G, S, ρ, d, S', r, re, e, k⟩ => by
    obtain ⟨⟨d1, S1⟩, e1, e⟩ := bindS e
    refine ⟨F, μ, G, S, ρ, d1, S1, r, re, e1, fun μ1 G1 H1 p1 x1 q1 v1 r1 => ?_⟩
    cases r1 with
    | bl b =>
      cases e
      exact ⟨b, rfl, k μ1 G1 H1 p1 x1 q1 _ (.bl _)⟩
    | _ => cases e
def mIf (t : MT) (a b : ME) : ME := fun ρ S => (t ρ S).bind fun p => if p.1 then a ρ p.2 else b ρ p.2
theorem d_if (h : PT X c (tDT X.K x)) (h1 : PE X a (tD X.K m)) (h2 : PE X b (tD X.K n)) : PE X (.IfExp c a b pos) (tD X.K (mIf x m n)) :=
  (pe_ifExp h h1 h2).weak fun σ H Q ⟨F, μ, G, S, ρ, d, S', r, re, e, k⟩ => by
    obtain ⟨⟨d1, S1⟩, e1, e⟩ := bindS e
    refine ⟨F, μ, G, S, ρ, d1, S1, r, re, e1, fun μ1 G1 H1 p1 x1 q1 => ?_⟩
    cases d1 with
    | true =>
      show tD X.K m σ H1 Q
      exact ⟨F, μ1, G1, S1, ρ, d, S', q1, re.mono p1 x1, e, k.mono p1 x1⟩
    | false =>
      show tD X.K n σ H1 Q
      exact ⟨F, μ1, G1, S1, ρ, d, S', q1, re.mono p1 x1, e, k.mono p1 x1⟩
def fNeg : D → Option D
  | .int i => some (.int (-i))
  | _ => none
def mNeg (m : ME) : ME := fun ρ S => (m ρ S).bind fun p => (fNeg p.1).map fun z => (z, p.2)
theorem d_neg (h : PE X a (tD X.K m)) : PE X (.UnaryOp .USub a pos) (tD X.K (mNeg m)) :=
  (pe_un un_neg h).weak fun σ H Q ⟨F, μ, G, S, ρ, d, S', r, re, e, k⟩ => by
    obtain ⟨⟨d1, S1⟩, e1, e⟩ := bindS e
    refine ⟨F, μ, G, S, ρ, d1, S1, r, re, e1, fun μ1 G1 H1 p1 x1 q1 v1 r1 => ?_⟩
    cases r1 with
    | int i =>
      cases e
      exact ⟨i, rfl, k μ1 G1 H1 p1 x1 q1 _ (.int _)⟩
    | _ => cases e

/-! ### statements -/
def sNext : MS := fun ρ S => some (.nx ρ, S)
def sSeq (a b : MS) : MS := fun ρ S => match a ρ S with
  | some (.nx ρ', S') => b ρ' S'
  | o => o
def sRet (m : ME) : MS := fun ρ S => (m ρ S).map fun p => (.rt p.1, p.2)
def sDrop (m : ME) : MS := fun ρ S => (m ρ S).map fun p => (.nx ρ, p.2)
def sSet (i : Nat) (m : ME) : MS := fun ρ S => (m ρ S).map fun p => (.nx (ρ.set i (some p.1)), p.2)
def sIf (t : MT) (a b : MS) : MS := fun ρ S => (t ρ S).bind fun p => if p.1 then a ρ p.2 else b ρ p.2
def sBrk : MS := fun ρ S => some (.bk ρ, S)
def sCnt : MS := fun ρ S => some (.ct ρ, S)
theorem FlE.nx {E E' : Ends} {f : Fl} {μ : List Addr} {G H : Hp} (h : FlE K E f μ G H) (hn : ∀ ρ, f ≠ .nx ρ) (e1 : E'.rt = E.rt) (e2 : E'.bk = E.bk) (e3 : E'.ct = E.ct) : FlE K E' f μ G H := by
  cases f with
  | nx ρ => exact absurd rfl (hn ρ)
  | rt d => unfold FlE at h ⊢; simp only at h ⊢; rw [e1]; exact h
  | bk d => unfold FlE at h ⊢; simp only at h ⊢; rw [e2]; exact h
  | ct d => unfold FlE at h ⊢; simp only at h ⊢; rw [e3]; exact h
variable {st : Stmt} {sts : List Stmt} {u v : MS}
theorem ss_nil : PSs X [] (tDS X.K sNext) := pss_nil.weak fun D σ H ⟨F, μ, G, S, ρ, d, S', r, re, e, k⟩ => by
  cases e
  exact k μ G H (Pf.refl _) (Ex.refl _) r σ re
theorem ss_one (h : PS X st (tDS X.K u)) : PSs X [st] (tDS X.K u) := pss_one h
theorem seq_weak : ∀ E σ H, tDS K (sSeq u v) E σ H → tSeq (tDS K u) (tDS K v) E σ H := by
  rintro E σ H ⟨F, μ, G, S, ρ, f, S', r, re, e, k⟩
  unfold sSeq at e
  split at e
  · rename_i ρ1 S1 e1
    exact ⟨F, μ, G, S, ρ, _, _, r, re, e1, fun μ1 G1 H1 p1 x1 q1 σ1 re1 => ⟨F, μ1, G1, S1, ρ1, f, S', q1, re1, e, k.mono p1 x1⟩⟩
  · rename_i hn
    refine ⟨F, μ, G, S, ρ, f, S', r, re, e, fun μ1 G1 H1 p1 x1 q1 => ?_⟩
    exact (k μ1 G1 H1 p1 x1 q1).nx (fun ρ1 q => hn ρ1 S' (by rw [e, q])) rfl rfl rfl
theorem ss_cons (h : PS X st (tDS X.K u)) (t : PSs X sts (tDS X.K v)) : PSs X (st :: sts) (tDS X.K (sSeq u v)) := (pss_cons h t).weak seq_weak
theorem map_some {α β : Type} {o : Option α} {f : α → β} {b : β} (h : o.map f = some b) : ∃ a, o = some a ∧ f a = b := by
  cases o with
  | none => cases h
  | some a => exact ⟨a, rfl, Option.some.inj h⟩
theorem s_ret (h : PE X e (tD X.K m)) : PS X (.Return (some e) pos) (tDS X.K (sRet m)) := (ps_ret h).weak fun D σ H ⟨F, μ, G, S, ρ, d, S', r, re, e, k⟩ => by
  obtain ⟨⟨d1, S1⟩, e1, e⟩ := map_some e
  cases e
  exact ⟨F, μ, G, S, ρ, _, _, r, re, e1, k⟩
theorem s_expr (h : PE X e (tD X.K m)) (hs : swapsWith e none pos.line X.env = pure false := by rfl) : PS X (.Expr e pos) (tDS X.K (sDrop m)) := (ps_expr h hs).weak fun D σ H ⟨F, μ, G, S, ρ, d, S', r, re, e, k⟩ => by
  obtain ⟨⟨d1, S1⟩, e1, e⟩ := map_some e
  cases e
  exact ⟨F, μ, G, S, ρ, _, _, r, re, e1, fun μ1 G1 H1 p1 x1 q1 v1 r1 => k μ1 G1 H1 p1 x1 q1 σ (re.mono p1 x1)⟩
theorem s_set {i : Nat} {nm : Str} {pos' : Pos} (hN : X.N.Nodup) (h : PE X e (tD X.K m)) (hi : X.N[i]? = some nm := by rfl) (hx : Loc X.env.scope nm := by first | exact Or.inl rfl | exact Or.inr rfl) (hs : swapsWith e (some (.Name nm pos')) pos.line X.env = pure false := by rfl)
    (hf : X.fn nm = true ∨ X.env.scope.names.lookup nm = some .local := by first | exact .inl rfl | exact .inr rfl | assumption) : PS X (.Assign [.Name nm pos'] e pos) (tDS X.K (sSet i m)) := (ps_set hN hi hx h hs hf).weak fun D σ H ⟨F, μ, G, S, ρ, d, S', r, re, e, k⟩ => by
  obtain ⟨⟨d1, S1⟩, e1, e⟩ := map_some e
  cases e
  exact ⟨F, μ, G, S, ρ, _, _, r, re, e1, fun μ1 G1 H1 p1 x1 q1 v1 r1 => k μ1 G1 H1 p1 x1 q1 _ ((re.mono p1 x1).set i r1)⟩
theorem s_if {sa sb : List Stmt} (h : PT X c (tDT X.K x)) (h1 : PSs X sa (tDS X.K u)) (h2 : PSs X sb (tDS X.K v)) : PS X (.If c sa sb pos) (tDS X.K (sIf x u v)) :=
  (ps_if h h1 h2).weak fun D σ H ⟨F, μ, G, S, ρ, d, S', r, re, e, k⟩ => by
    obtain ⟨⟨d1, S1⟩, e1, e⟩ := bindS e
    refine ⟨F, μ, G, S, ρ, d1, S1, r, re, e1, fun μ1 G1 H1 p1 x1 q1 => ?_⟩
    cases d1 with
    | true =>
      show tDS X.K u D σ H1
      exact ⟨F, μ1, G1, S1, ρ, d, S', q1, re.mono p1 x1, e, k.mono p1 x1⟩
    | false =>
      show tDS X.K v D σ H1
      exact ⟨F, μ1, G1, S1, ρ, d, S', q1, re.mono p1 x1, e, k.mono p1 x1⟩
end
end DL
/-! DLe -/
/-! DL: targets, loops, comprehensions. -/
namespace DL
open PySem PySem.Spec PyProof.Rows L2
variable {F : Hp}
section
variable {X : Cx} {K : PySem.W.Frag} {pos : Pos}
/-! ### targets -/
abbrev MG := D → Env' → Option Env'
abbrev MGs := List D → Env' → Option Env'
theorem wipe_set {σ : L2.St} {i : Nat} {x : Option V} : ∀ {vs : List Nat}, i ∈ vs → wipe (σ.set i x) vs = wipe σ vs
  | [], h => absurd h (by simp)
  | v :: vs, h => by
    unfold wipe
    by_cases hi : i ∈ vs
    · rw [wipe_set hi]
    · have e : i = v := (List.mem_cons.mp h).resolve_right hi
      subst e
      have out : ∀ {ws : List Nat}, i ∉ ws → wipe (σ.set i x) ws = (wipe σ ws).set i x := fun {ws} => by
        induction ws with
        | nil => intro _; rfl
        | cons w ws ih =>
          intro hw
          unfold wipe
          rw [ih fun z => hw (List.mem_cons_of_mem _ z), List.set_comm _ _ (fun z => hw (by first | (rw [z]; exact List.mem_cons_self ..) | (rw [← z]; exact List.mem_cons_self ..)))]
      rw [out hi, List.set_set]
def tDG (K : PySem.W.Frag) (g : MG) (ts : List Nat) : TG := fun v σ H Q => ∃ F μ G S ρ d ρ', Rel K F μ S H G ∧ REnv K μ G σ ρ ∧ Rp K μ G v d ∧ g d ρ = some ρ' ∧ ∀ σ', REnv K μ G σ' ρ' → (∀ vs, (∀ i ∈ ts, i ∈ vs) → wipe σ' vs = wipe σ vs) → Q σ' H
def tDGs (K : PySem.W.Frag) (g : MGs) (ts : List Nat) : TGs := fun v σ H Q => ∃ F μ G S ρ d ρ', Rel K F μ S H G ∧ REnv K μ G σ ρ ∧ RpA K μ G v d ∧ g d ρ = some ρ' ∧ ∀ σ', REnv K μ G σ' ρ' → (∀ vs, (∀ i ∈ ts, i ∈ vs) → wipe σ' vs = wipe σ vs) → Q σ' H
theorem _root_.L2.PG.weak {X : Cx} {e : Expr} {t t' : TG} (h : PG X e t) (w : ∀ v σ H Q, t' v σ H Q → t v σ H Q) : PG X e t' := ⟨fun pins s σ H v u Q I r q => h.run pins s σ H v u Q I r (w v σ H Q q)⟩
theorem _root_.L2.PGs.weak {X : Cx} {e : List Expr} {t t' : TGs} (h : PGs X e t) (w : ∀ v σ H Q, t' v σ H Q → t v σ H Q) : PGs X e t' := ⟨fun pins s σ H v u Q I r q => h.run pins s σ H v u Q I r (w v σ H Q q)⟩
def gN (i : Nat) : MG := fun d ρ => some (ρ.set i (some d))
theorem g_name {i : Nat} {x : Str} (hN : X.N.Nodup) (hi : X.N[i]? = some x := by rfl) (hx : Loc X.env.scope x := by first | exact Or.inl rfl | exact Or.inr rfl) (hf : X.fn x = true ∨ X.env.scope.names.lookup x = some .local := by first | exact .inl rfl | exact .inr rfl | assumption) :
    PG X (.Name x pos) (tDG X.K (gN i) [i]) := (pg_name hN hi hx hf).weak fun v σ H Q ⟨F, μ, G, S, ρ, d, ρ', r, re, rv, e, q⟩ => by
  cases e
  exact q _ (re.set i rv) fun vs hv => wipe_set (hv i (by simp))
def gNl : MGs := fun ds ρ => match ds with
  | [] => some ρ
  | _ => none
def gCn (g : MG) (h : MGs) : MGs := fun ds ρ => match ds with
  | [] => none
  | d :: ds => (g d ρ).bind (h ds)
def gT (n : Nat) (g : MGs) : MG := fun d ρ => match d with
  | .tup ds => if ds.length = n then g ds ρ else none
  | _ => none
theorem gs_nil : PGs X [] (tDGs X.K gNl []) := pgs_nil.weak fun v σ H Q ⟨F, μ, G, S, ρ, d, ρ', r, re, rv, e, q⟩ => by
  cases rv with
  | nil =>
    cases e
    exact ⟨rfl, q σ re fun _ _ => rfl⟩
  | cons _ _ => cases e
theorem gs_cons {e : Expr} {es : List Expr} {g : MG} {h : MGs} {ts us : List Nat} (h1 : PG X e (tDG X.K g ts)) (h2 : PGs X es (tDGs X.K h us)) (hs : (assignEach (e :: es) X.env).map (·.2) = assign e X.env :: (assignEach es X.env).map (·.2) := by rfl) : PGs X (e :: es) (tDGs X.K (gCn g h) (ts ++ us)) :=
  (pgs_cons h1 h2 hs).weak fun v σ H Q ⟨F, μ, G, S, ρ, d, ρ', r, re, rv, e, q⟩ => by
    cases rv with
    | nil => cases e
    | cons rv rvs =>
      obtain ⟨ρ1, e1, e⟩ := bindS e
      refine ⟨_, _, rfl, F, μ, G, S, ρ, _, ρ1, r, re, rv, e1, fun σ1 re1 w1 => ?_⟩
      exact ⟨F, μ, G, S, ρ1, _, ρ', r, re1, rvs, e, fun σ2 re2 w2 => q σ2 re2 fun vs hv =>
        (w2 vs fun i hi => hv i (List.mem_append_right _ hi)).trans (w1 vs fun i hi => hv i (List.mem_append_left _ hi))⟩
theorem g_tup {es : List Expr} {k : Nat} {g : MGs} {ts : List Nat} {n : Nat} (hc : X.calm = true) (h : PGs X es (tDGs X.K g ts)) (hn : (assignEach es X.env).length = n := by rfl) (hst : (assignEach es X.env).findIdx? (·.1) = none := by rfl) : PG X (.Tuple es k pos) (tDG X.K (gT n g) ts) :=
  (pg_tup hc h hn hst).weak fun v σ H Q ⟨F, μ, G, S, ρ, d, ρ', r, re, rv, e, q⟩ => by
    cases rv with
    | tup h1 h2 =>
      unfold gT at e
      simp only at e
      split at e
      · rename_i hl
        exact ⟨_, _, rfl, r.sub.st h1, h2.len.trans hl, F, μ, G, S, ρ, _, ρ', r, re, h2, e, q⟩
      · cases e
    | _ => cases e
/-- target = e -/
def sAsg (g : MG) (m : ME) : MS := fun ρ S => (m ρ S).bind fun p => (g p.1 ρ).map fun ρ' => (.nx ρ', p.2)
theorem s_asg {tg e : Expr} {m : ME} {g : MG} {ts : List Nat} (h : PE X e (tD X.K m)) (hg : PG X tg (tDG X.K g ts)) (hs : swapsWithSole [tg] e pos.line X.env = pure false := by rfl) (hw : swappedStores [tg] e X.env = pure none := by rfl)
    (h1 : (assignEach [tg] X.env).map (·.2) = [assign tg X.env] := by rfl) : PS X (.Assign [tg] e pos) (tDS X.K (sAsg g m)) := (ps_asg h hg hs hw h1).weak fun E σ H ⟨F, μ, G, S, ρ, f, S', r, re, e, k⟩ => by
  obtain ⟨⟨d1, S1⟩, e1, e⟩ := bindS e
  obtain ⟨ρ1, e2, e⟩ := map_some e
  cases e
  refine ⟨F, μ, G, S, ρ, d1, _, r, re, e1, fun μ1 G1 H1 p1 x1 q1 v1 r1 => ?_⟩
  exact ⟨F, μ1, G1, _, ρ, d1, ρ1, q1, re.mono p1 x1, r1, e2, fun σ2 re2 _ => k μ1 G1 H1 p1 x1 q1 σ2 re2⟩
/-- a, b = x, y, both names local -/
def sPar (i j : Nat) (m n : ME) : MS := fun ρ S => (m ρ S).bind fun p => (n ρ p.2).map fun q => (.nx ((ρ.set i (some p.1)).set j (some q.1)), q.2)
theorem s_par {i j : Nat} {x y : Str} {a b : Expr} {m n : ME} {px py pt : Pos} {kt k2 pt2} (hc : X.calm = true) (hN : X.N.Nodup) (ha : PE X a (tD X.K m)) (hb : PE X b (tD X.K n)) (hi : X.N[i]? = some x := by rfl) (hj : X.N[j]? = some y := by rfl) (hij : i ≠ j := by decide)
    (hx : X.env.scope.names.lookup x = some .local := by rfl) (hy : X.env.scope.names.lookup y = some .local := by rfl)
    (hw : swappedStores [.Tuple [.Name x px, .Name y py] kt pt] (.Tuple [a, b] k2 pt2) X.env = pure (some [x, y]) := by rfl)
    (hs : swapsWithSole [.Tuple [.Name x px, .Name y py] kt pt] (.Tuple [a, b] k2 pt2) pos.line X.env = pure false := by rfl)
    (he : starEach [a, b] X.env = (false, eval a X.env) :: starEach [b] X.env := by rfl) (he2 : starEach [b] X.env = (false, eval b X.env) :: starEach [] X.env := by rfl) :
    PS X (.Assign [.Tuple [.Name x px, .Name y py] kt pt] (.Tuple [a, b] k2 pt2) pos) (tDS X.K (sPar i j m n)) :=
  (ps_par hc hN hi hj hij hx hy (a_cons ha (a_cons hb a_nil he2) he) hw hs).weak fun E σ H ⟨F, μ, G, S, ρ, f, S', r, re, e, k⟩ => by
    obtain ⟨⟨d1, S1⟩, e1, e⟩ := bindS e
    obtain ⟨⟨d2, S2⟩, e2, e⟩ := map_some e
    cases e
    refine ⟨F, μ, G, S, ρ, [d1, d2], S2, r, re, ?_, fun μ1 G1 H1 p1 x1 q1 v1 r1 => ?_⟩
    · have e2 : n ρ S1 = some (d2, S2) := e2
      simp [mCons, mNil, e1, e2]
    · cases r1 with
      | cons r1 rr =>
        cases rr with
        | cons r2 rr =>
          cases rr
          exact ⟨_, _, rfl, k μ1 G1 H1 p1 x1 q1 _ (((re.mono p1 x1).set i r1).set j r2)⟩

/-! ### what is walked -/
/-- the iterator J yields these, in order -/
def ItD (K : PySem.W.Frag) (J : It) (μ : List Addr) (G : Hp) (ds : List D) : Prop := ∀ F μ' G' S' H', Pf μ μ' → Ex G G' → Rel K F μ' S' H' G' →
  (∀ (i : Nat) (d : D), ds[i]? = some d → J.go i H' ∧ ∀ x H'', J.yld i H' x H'' → ∃ G'', Ex G' G'' ∧ Rel K F μ' S' H'' G'' ∧ Rp K μ' G'' x d) ∧ J.stop ds.length H'
theorem ItD.mono {J : It} {μ μ' : List Addr} {G G' : Hp} {ds : List D} (h : ItD K J μ G ds) (p : Pf μ μ') (e : Ex G G') : ItD K J μ' G' ds := fun F μ2 G2 S2 H2 p2 e2 r => h F μ2 G2 S2 H2 (p.trans p2) (e.trans e2) r
def tDI (K : PySem.W.Frag) (m : MA) : TI := fun σ H R => ∃ F μ G S ρ ds S', Rel K F μ S H G ∧ REnv K μ G σ ρ ∧ m ρ S = some (ds, S') ∧ Aft K F μ G S' fun μ' G' H' => ∀ J, ItD K J μ' G' ds → R J H'
theorem _root_.L2.PI.weak {X : Cx} {tg e : Expr} {t t' : TI} (h : PI X tg e t) (w : ∀ σ H Q, t' σ H Q → t σ H Q) : PI X tg e t' := ⟨fun pins s σ H Q I q => h.run pins s σ H Q I (w σ H Q q)⟩
theorem _root_.L2.PI.or {X : Cx} {tg e : Expr} {t t' : TI} (h : PI X tg e t) (h' : PI X tg e t') : PI X tg e (fun σ H R => t σ H R ∨ t' σ H R) := ⟨fun pins s σ H Q I q => q.elim (h.run pins s σ H Q I) (h'.run pins s σ H Q I)⟩
/-- what is walked over -/
def itOf (d : D) : Option (List D) := match d with
  | .str x => if x.length ≤ 1000000 then some (x.cps.toList.map fun c => .str ⟨#[c]⟩) else none
  | d => seqOf d
def mSq (m : ME) : MA := fun ρ S => (m ρ S).bind fun p => (itOf p.1).map fun ds => (ds, p.2)
theorem itD_str {μ : List Addr} {G : Hp} (x : Str) : ItD K (Its x) μ G (x.cps.toList.map fun c => .str ⟨#[c]⟩) := fun F μ' G' S' H' p e q => by
  refine ⟨fun i d hd => ?_, by show x.cps.size ≤ _; simp⟩
  rw [List.getElem?_map] at hd
  obtain ⟨c, h1, h2⟩ := map_some hd
  have hi : i < x.cps.size := by
    have := (List.getElem?_eq_some_iff.mp h1).1
    simpa using this
  refine ⟨hi, fun y H'' z => ?_⟩
  obtain ⟨rfl, c', hc, rfl⟩ := z
  rw [Array.getElem?_toList] at h1
  rw [h1] at hc
  cases hc
  exact ⟨G', Ex.refl _, q, by rw [← h2]; exact .str _⟩
theorem itD_list {μ : List Addr} {G : Hp} {a : Addr} {xs : List V} {ds : List D} (h : SqL K G a xs) (r : RpA K μ G xs ds) : ItD K (Itl K a) μ G ds := fun F μ' G' S' H' p e q => by
  have hs : SqL K H' a xs := q.sub.sl (e.sl h)
  refine ⟨fun i d hd => ?_, xs, hs, by rw [r.len]; exact Nat.le_refl _⟩
  obtain ⟨v, h1, h2⟩ := r.get hd
  exact ⟨⟨xs, v, hs, h1⟩, fun x H'' y => by
    obtain ⟨rfl, y⟩ := y
    have hx : x = v := Option.some.inj ((y xs hs).symm.trans h1)
    subst hx
    exact ⟨G', Ex.refl _, q, h2.mono p e⟩⟩
theorem itD_tup {μ : List Addr} {G : Hp} {a : Addr} {xs : List V} {ds : List D} (h : SqT K G a xs) (r : RpA K μ G xs ds) : ItD K (Itt K a) μ G ds := fun F μ' G' S' H' p e q => by
  have hs : SqT K H' a xs := q.sub.st (e.st h)
  refine ⟨fun i d hd => ?_, xs, hs, by rw [r.len]; exact Nat.le_refl _⟩
  obtain ⟨v, h1, h2⟩ := r.get hd
  exact ⟨⟨xs, v, hs, h1⟩, fun x H'' y => by
    obtain ⟨rfl, y⟩ := y
    have hx : x = v := Option.some.inj ((y xs hs).symm.trans h1)
    subst hx
    exact ⟨G', Ex.refl _, q, h2.mono p e⟩⟩
theorem i_seq {tg e : Expr} {m : ME} (h : PE X e (tD X.K m)) : PI X tg e (tDI X.K (mSq m)) :=
  PI.weak (t := fun σ H R => iList X.K (tD X.K m) σ H R ∨ iTup X.K (tD X.K m) σ H R ∨ iStr (tD X.K m) σ H R) (PI.or (pi_list h) (PI.or (pi_tup h) (pi_str h))) fun σ H R ⟨F, μ, G, S, ρ, ds, S', r, re, e, k⟩ => by
    obtain ⟨⟨d1, S1⟩, e1, e⟩ := bindS e
    obtain ⟨ds1, e2, e⟩ := map_some e
    cases e
    cases d1 with
    | str x =>
      obtain ⟨_, e3⟩ := ifs e2
      cases e3
      refine .inr (.inr ⟨F, μ, G, S, ρ, _, _, r, re, e1, fun μ1 G1 H1 p1 x1 q1 v1 r1 => ?_⟩)
      cases r1
      exact ⟨x, rfl, k μ1 G1 H1 p1 x1 q1 _ (itD_str x)⟩
    | tup xs =>
      cases e2
      refine .inr (.inl ⟨F, μ, G, S, ρ, _, _, r, re, e1, fun μ1 G1 H1 p1 x1 q1 v1 r1 => ?_⟩)
      cases r1 with
      | tup h1 h2 => exact ⟨_, rfl, ⟨_, q1.sub.st h1⟩, k μ1 G1 H1 p1 x1 q1 _ (itD_tup h1 h2)⟩
    | lst xs =>
      cases e2
      refine .inl ⟨F, μ, G, S, ρ, _, _, r, re, e1, fun μ1 G1 H1 p1 x1 q1 v1 r1 => ?_⟩
      cases r1 with
      | lst h1 h2 => exact ⟨_, rfl, ⟨_, SqL.of (q1.sub _ _ h1)⟩, k μ1 G1 H1 p1 x1 q1 _ (itD_list (SqL.of h1) h2)⟩
    | rol xs =>
      cases e2
      refine .inl ⟨F, μ, G, S, ρ, _, _, r, re, e1, fun μ1 G1 H1 p1 x1 q1 v1 r1 => ?_⟩
      cases r1 with
      | rol h1 h2 => exact ⟨_, rfl, ⟨_, q1.sub.sl h1⟩, k μ1 G1 H1 p1 x1 q1 _ (itD_list h1 h2)⟩
    | _ => cases e2
/-- range(n) -/
def upTo (n : Nat) : List D := (List.range n).map fun i => .int (i : Nat)
def mRg1 (m : ME) : MA := fun ρ S => (m ρ S).bind fun p => match p.1 with
  | .int j => if -(2 ^ 62) ≤ j ∧ j < 2 ^ 62 then some (upTo j.toNat, p.2) else none
  | _ => none
theorem itD_range {μ : List Addr} {G : Hp} (n : Nat) : ItD K (Itr 0 n) μ G (upTo n) := fun F μ' G' S' H' p e q => by
  refine ⟨fun i d hd => ?_, by show n ≤ _; simp [upTo]⟩
  have hi : i < n ∧ d = .int (i : Nat) := by
    unfold upTo at hd
    rw [List.getElem?_map] at hd
    obtain ⟨j, h1, h2⟩ := map_some hd
    obtain ⟨h3, h4⟩ := List.getElem?_eq_some_iff.mp h1
    rw [List.length_range] at h3
    rw [List.getElem_range] at h4
    exact ⟨h3, by rw [← h2, h4]⟩
  obtain ⟨hi, rfl⟩ := hi
  exact ⟨hi, fun x H'' y => by
    obtain ⟨rfl, rfl⟩ := y
    exact ⟨G', Ex.refl _, q, by rw [Int.zero_add]; exact .int _⟩⟩
theorem i_rg1 {tg a : Expr} {m : ME} {p : Pos} (hm : X.mg "range" = none) (h : PE X a (tD X.K m)) (hg : Gl X "range" := by rfl) (hs : starEach [a] X.env = [(false, eval a X.env)] := by rfl) (he : starEach [a] X.env = (false, eval a X.env) :: starEach [] X.env := by rfl) :
    PI X tg (.Call (.Name "range" p) [a] [] pos) (tDI X.K (mRg1 m)) := (pi_range1 hg hm (a_cons h a_nil he) hs).weak fun σ H R ⟨F, μ, G, S, ρ, ds, S', r, re, e, k⟩ => by
  obtain ⟨⟨d1, S1⟩, e1, e⟩ := bindS e
  cases d1 with
  | int j =>
    obtain ⟨hb, e⟩ := ifs e
    cases e
    refine ⟨F, μ, G, S, ρ, [.int j], S1, r, re, ?_, fun μ1 G1 H1 p1 x1 q1 v1 r1 => ?_⟩
    · simp [mCons, mNil, e1]
    · cases r1 with
      | cons r1 rr =>
        cases rr
        cases r1
        exact ⟨j, rfl, hb.1, hb.2, k μ1 G1 H1 p1 x1 q1 _ (itD_range _)⟩
  | _ => cases e

/-! ### for -/
def forL (g : MG) (b : MS) : List D → MS
  | [], ρ, S => some (.nx ρ, S)
  | d :: ds, ρ, S => (g d ρ).bind fun ρ1 => match b ρ1 S with
    | some (.nx ρ2, S2) => forL g b ds ρ2 S2
    | some (.ct ρ2, S2) => forL g b ds ρ2 S2
    | some (.bk ρ2, S2) => some (.nx ρ2, S2)
    | some (.rt d, S2) => some (.rt d, S2)
    | none => none
def sFor (m : MA) (g : MG) (b : MS) : MS := fun ρ S => (m ρ S).bind fun p => forL g b p.1 ρ p.2
theorem s_for {tg iter : Expr} {body : List Stmt} {m : MA} {g : MG} {ts : List Nat} {b : MS} (hp : PassesOwn (model X.prog X.w) X.A X.env X.xe) (hc : X.calm = true) (hi : PI X tg iter (tDI X.K m)) (hg : PG X tg (tDG X.K g ts)) (hb : PSs X body (tDS X.K b))
    (hs : ∀ x, foldedSetIterable iter X.env x = pure x := by intro _; rfl) : PS X (.For tg iter body [] pos) (tDS X.K (sFor m g b)) :=
  (ps_for hp hc hi hg hb hs).weak fun E σ H ⟨F, μ, G, S, ρ, f, S', r, re, e, k⟩ => by
    obtain ⟨⟨ds, S1⟩, e1, e⟩ := bindS e
    have e : forL g b ds ρ S1 = some (f, S') := e
    refine ⟨F, μ, G, S, ρ, ds, S1, r, re, e1, fun μ1 G1 H1 p1 x1 q1 J it => ?_⟩
    refine ⟨fun i m σ H => ∃ μ G ρ S f S', Rel X.K F μ S H G ∧ REnv X.K μ G σ ρ ∧ i + m = ds.length ∧ ItD X.K J μ G ds ∧ forL g b (ds.drop i) ρ S = some (f, S') ∧ Aft X.K F μ G S' (FlE X.K E f),
      ⟨ds.length, μ1, G1, ρ, S1, f, S', q1, re.mono p1 x1, Nat.zero_add _, it, e, k.mono p1 x1⟩, ?_⟩
    rintro i n σ2 H2 ⟨μ2, G2, ρ2, S2, f2, S3, q2, re2, hi, it2, e2, k2⟩
    obtain ⟨igo, istop⟩ := it2 F μ2 G2 S2 H2 (Pf.refl _) (Ex.refl _) q2
    by_cases hlt : i < ds.length
    · have hd : ds[i]? = some ds[i] := List.getElem?_eq_getElem hlt
      rw [List.drop_eq_getElem_cons hlt] at e2
      obtain ⟨ρ3, e3, e2⟩ := bindS e2
      obtain ⟨g1, g2⟩ := igo i _ hd
      refine .inr ⟨g1, fun σ H => ∃ n', n' < n ∧ ∃ μ G ρ S f S', Rel X.K F μ S H G ∧ REnv X.K μ G σ ρ ∧ i + 1 + n' = ds.length ∧ ItD X.K J μ G ds ∧ forL g b (ds.drop (i + 1)) ρ S = some (f, S') ∧ Aft X.K F μ G S' (FlE X.K E f), fun σ' H' h => h, fun x H3 hy => ?_⟩
      obtain ⟨G3, x3, q3, r3⟩ := g2 x H3 hy
      refine ⟨F, μ2, G3, S2, ρ2, _, ρ3, q3, re2.mono (Pf.refl _) x3, r3, e3, fun σ4 re4 _ => ?_⟩
      have it3 := it2.mono (Pf.refl μ2) x3
      have k3 := k2.mono (Pf.refl μ2) x3
      cases eb : b ρ3 S2 with
      | none =>
        rw [eb] at e2
        cases e2
      | some p =>
        obtain ⟨fl, S4⟩ := p
        rw [eb] at e2
        refine ⟨F, μ2, G3, S2, ρ3, fl, S4, q3, re4, eb, fun μ5 G5 H5 p5 x5 q5 => ?_⟩
        cases fl with
        | nx ρ5 =>
          intro σ5 re5
          exact ⟨n - 1, by omega, μ5, G5, ρ5, S4, f2, S3, q5, re5, by omega, it3.mono p5 x5, e2, k3.mono p5 x5⟩
        | ct ρ5 =>
          intro σ5 re5
          exact ⟨n - 1, by omega, μ5, G5, ρ5, S4, f2, S3, q5, re5, by omega, it3.mono p5 x5, e2, k3.mono p5 x5⟩
        | bk ρ5 =>
          intro σ5 re5
          cases e2
          exact k3 μ5 G5 H5 p5 x5 q5 σ5 re5
        | rt d5 =>
          cases e2
          exact k3 μ5 G5 H5 p5 x5 q5
    · have hi' : i = ds.length := by omega
      subst hi'
      rw [List.drop_length] at e2
      cases e2
      exact .inl ⟨istop, k2 μ2 G2 H2 (Pf.refl _) (Ex.refl _) q2 σ2 re2⟩

/-! ### while -/
def whL (t : MT) (b : MS) : Nat → MS
  | 0, _, _ => none
  | n + 1, ρ, S => (t ρ S).bind fun p => if p.1 then (match b ρ p.2 with
    | some (.nx ρ2, S2) => whL t b n ρ2 S2
    | some (.ct ρ2, S2) => whL t b n ρ2 S2
    | some (.bk ρ2, S2) => some (.nx ρ2, S2)
    | some (.rt d, S2) => some (.rt d, S2)
    | none => none) else some (.nx ρ, p.2)
theorem s_while {c : Expr} {body : List Stmt} {t : MT} {b : MS} (n : Nat) (hp : PassesOwn (model X.prog X.w) X.A X.env X.xe) (hc : PT X c (tDT X.K t)) (hb : PSs X body (tDS X.K b)) : PS X (.While c body [] pos) (tDS X.K (whL t b n)) :=
  (ps_while hp hc hb).weak fun E σ H ⟨F, μ, G, S, ρ, f, S', r, re, e, k⟩ => by
    refine ⟨fun m σ H => ∃ μ G ρ S f S', Rel X.K F μ S H G ∧ REnv X.K μ G σ ρ ∧ whL t b m ρ S = some (f, S') ∧ Aft X.K F μ G S' (FlE X.K E f), ⟨n, μ, G, ρ, S, f, S', r, re, e, k⟩, ?_⟩
    rintro m σ2 H2 ⟨μ2, G2, ρ2, S2, f2, S3, q2, re2, e2, k2⟩
    cases m with
    | zero => cases e2
    | succ m =>
      obtain ⟨⟨c1, S4⟩, e3, e2⟩ := bindS e2
      refine ⟨F, μ2, G2, S2, ρ2, c1, S4, q2, re2, e3, fun μ4 G4 H4 p4 x4 q4 => ?_⟩
      have k3 := k2.mono p4 x4
      have re4 := re2.mono p4 x4
      cases c1 with
      | false =>
        cases e2
        show E.nx σ2 H4
        exact k3 μ4 G4 H4 (Pf.refl _) (Ex.refl _) q4 σ2 re4
      | true =>
        have e2 : (match b ρ2 S4 with
          | some (.nx ρ2, S2) => whL t b m ρ2 S2
          | some (.ct ρ2, S2) => whL t b m ρ2 S2
          | some (.bk ρ2, S2) => some (.nx ρ2, S2)
          | some (.rt d, S2) => some (.rt d, S2)
          | none => none) = some (f2, S3) := e2
        dsimp only
        rw [if_pos rfl]
        refine ⟨fun σ H => ∃ m', m' < m + 1 ∧ ∃ μ G ρ S f S', Rel X.K F μ S H G ∧ REnv X.K μ G σ ρ ∧ whL t b m' ρ S = some (f, S') ∧ Aft X.K F μ G S' (FlE X.K E f), fun σ' H' h => h, ?_⟩
        cases eb : b ρ2 S4 with
        | none =>
          rw [eb] at e2
          cases e2
        | some p =>
          obtain ⟨fl, S5⟩ := p
          rw [eb] at e2
          refine ⟨F, μ4, G4, S4, ρ2, fl, S5, q4, re4, eb, fun μ5 G5 H5 p5 x5 q5 => ?_⟩
          cases fl with
          | nx ρ5 =>
            intro σ5 re5
            exact ⟨m, by omega, μ5, G5, ρ5, S5, f2, S3, q5, re5, e2, k3.mono p5 x5⟩
          | ct ρ5 =>
            intro σ5 re5
            exact ⟨m, by omega, μ5, G5, ρ5, S5, f2, S3, q5, re5, e2, k3.mono p5 x5⟩
          | bk ρ5 =>
            intro σ5 re5
            cases e2
            exact k3 μ5 G5 H5 p5 x5 q5 σ5 re5
          | rt d5 =>
            cases e2
            exact k3 μ5 G5 H5 p5 x5 q5
end
end DL
/-! DLf -/
/-! DL: comprehensions, stores into lists, calls. -/
namespace DL
open PySem PySem.Spec PyProof.Rows L2
variable {F : Hp}
theorem ifo {c : Prop} [Decidable c] {α : Type} {x : Option α} {b : α} (h : (if c then x else none) = some b) : c ∧ x = some b := by
  by_cases hc : c
  · rw [if_pos hc] at h
    exact ⟨hc, h⟩
  · rw [if_neg hc] at h
    cases h
section
variable {X : Cx} {K : PySem.W.Frag} {pos : Pos}
/-! ### comprehensions -/
def wipeD (ρ : Env') : List Nat → Env'
  | [] => ρ
  | v :: vs => (wipeD ρ vs).set v none
theorem REnv.outs {μ : List Addr} {G : Hp} {σ : L2.St} {ρ : Env'} (r : REnv K μ G σ ρ) (i : Nat) : REnv K μ G (σ.set i none) (ρ.set i none) := by
  refine ⟨by rw [List.length_set, List.length_set, r.len], fun j e q => ?_⟩
  by_cases hj : i = j
  · subst hj
    by_cases hi : i < ρ.length
    · rw [List.getElem?_set_self hi] at q
      cases q
    · rw [List.getElem?_eq_none (by rw [List.length_set]; omega)] at q
      cases q
  · rw [List.getElem?_set_ne hj] at q
    obtain ⟨w, h1, h2⟩ := r.at' j e q
    exact ⟨w, by rw [List.getElem?_set_ne hj]; exact h1, h2⟩
theorem REnv.wipe {μ : List Addr} {G : Hp} {σ : L2.St} {ρ : Env'} (r : REnv K μ G σ ρ) : ∀ vs : List Nat, REnv K μ G (L2.wipe σ vs) (wipeD ρ vs)
  | [] => r
  | v :: vs => by
    unfold L2.wipe wipeD
    exact (REnv.wipe r vs).outs v
def lcL (g : MG) (t : MT) (m : ME) (ρ : Env') : List D → Sto → Option (List D × Sto)
  | [], S => some ([], S)
  | d :: ds, S => (g d ρ).bind fun ρ1 => (t ρ1 S).bind fun p => if p.1 then (m ρ1 p.2).bind fun q => (lcL g t m ρ ds q.2).map fun z => (q.1 :: z.1, z.2) else lcL g t m ρ ds p.2
def mLc (s : MA) (g : MG) (t : MT) (m : ME) (vs : List Nat) : ME := fun ρ S => (s ρ S).bind fun p => if p.1.length ≤ 1000000 then (lcL g t m (wipeD ρ vs) p.1 p.2).map fun q => (.lst q.1, q.2) else none
def mYes : MT := fun _ S => some (true, S)
def tDTs (K : PySem.W.Frag) (m : MT) : TT := tDT K m
theorem _root_.L2.PTs.weak {X : Cx} {e : List Expr} {t t' : TT} (h : PTs X e t) (w : ∀ σ H Q, t' σ H Q → t σ H Q) : PTs X e t' := ⟨fun pins s σ H Q I q => h.run pins s σ H Q I (w σ H Q q)⟩
theorem ts_nil : PTs X [] (tDT X.K mYes) := pts_nil.weak fun σ H Q ⟨F, μ, G, S, ρ, d, S', r, re, e, k⟩ => by
  cases e
  exact k μ G H (Pf.refl _) (Ex.refl _) r
theorem ts_one {c : Expr} {t : MT} (h : PT X c (tDT X.K t)) : PTs X [c] (tDT X.K t) := pts_one h
theorem lcL_len {g : MG} {t : MT} {m : ME} {ρ : Env'} : ∀ {ds : List D} {S : Sto} {rs : List D} {S' : Sto}, lcL g t m ρ ds S = some (rs, S') → rs.length ≤ ds.length
  | [], _, _, _, h => by
    cases h
    exact Nat.le_refl _
  | d :: ds, S, rs, S', h => by
    unfold lcL at h
    obtain ⟨ρ1, e1, h⟩ := bindS h
    obtain ⟨⟨c, S1⟩, e2, h⟩ := bindS h
    cases c with
    | true =>
      obtain ⟨⟨q, S2⟩, e3, h⟩ := bindS h
      obtain ⟨⟨z, S3⟩, e4, h⟩ := map_some h
      cases h
      have := lcL_len e4
      simp only [List.length_cons]
      omega
    | false =>
      have := lcL_len (show lcL g t m ρ ds S1 = some (rs, S') from h)
      rw [List.length_cons]
      omega
/-- the frame with the list under work in it -/
theorem Rel.frame {μ : List Addr} {S : Sto} {H G : Hp} {a : Addr} {o : HO} (r : Rel K F μ S H G) (h : G a = none) (hm : a ∉ μ) (hf : F a = none) : Rel K (upd F a o) μ S (upd H a o) G where
  sub := r.sub.off h
  len := r.len
  cell := fun n c e => by
    obtain ⟨b, vs, h1, h2, h3, h4⟩ := r.cell n c e
    have ne : b ≠ a := fun z => hm (z ▸ List.mem_of_getElem? h1)
    exact ⟨b, vs, h1, by rw [upd_ne ne]; exact h2, h3, h4⟩
  inj := r.inj
  trk := fun b hb => by
    have ne : b ≠ a := fun z => hm (z ▸ hb)
    rw [upd_ne ne]
    exact r.trk b hb
  frm := fun b u e => by
    by_cases hb : b = a
    · rw [hb, upd_same] at e ⊢
      exact e
    · rw [upd_ne hb] at e ⊢
      exact r.frm b u e
  frd := fun b u e => by
    by_cases hb : b = a
    · rw [hb]
      exact ⟨h, hm⟩
    · rw [upd_ne hb] at e
      exact r.frd b u e
theorem Rel.unframe {μ : List Addr} {S : Sto} {H G : Hp} {a : Addr} {o : HO} (r : Rel K (upd F a o) μ S H G) (hf : F a = none) : Rel K F μ S H G where
  sub := r.sub
  len := r.len
  cell := r.cell
  inj := r.inj
  trk := r.trk
  frm := fun b u e => r.frm b u (by rw [upd_ne (ne_of_none e hf)]; exact e)
  frd := fun b u e => r.frd b u (by rw [upd_ne (ne_of_none e hf)]; exact e)
theorem Rel.reframe {μ : List Addr} {S : Sto} {H G : Hp} {a : Addr} {o o' : HO} (r : Rel K (upd F a o) μ S H G) (hf : F a = none) : Rel K (upd F a o') μ S (upd H a o') G := by
  have q := r.frd a o upd_same
  exact (r.unframe hf).frame q.1 q.2 hf
theorem upd_app {H : Hp} {a : Addr} {o o' : HO} : upd (upd H a o) a o' = upd H a o' := upd_upd
theorem Rel.thaw {μ : List Addr} {S : Sto} {H G : Hp} {a : Addr} {o : HO} (r : Rel K (upd F a o) μ S H G) (hf : F a = none) : Rel K F μ S H (upd G a o) where
  sub := fun b u e => by
    by_cases hb : b = a
    · rw [hb, upd_same] at e
      rw [hb]
      exact r.frm a u (by rw [upd_same]; exact e)
    · rw [upd_ne hb] at e
      exact r.sub b u e
  len := r.len
  cell := fun n c e => by
    obtain ⟨b, vs, h1, h2, h3, h4⟩ := r.cell n c e
    have q := r.frd a o upd_same
    have ne : b ≠ a := fun z => q.2 (z ▸ List.mem_of_getElem? h1)
    exact ⟨b, vs, h1, h2, h3.mono (Pf.refl _) (Ex.new q.1), by rw [upd_ne ne]; exact h4⟩
  inj := r.inj
  trk := r.trk
  frm := (r.unframe hf).frm
  frd := fun b u e => by
    have ne : b ≠ a := ne_of_none e hf
    rw [upd_ne ne]
    exact (r.unframe hf).frd b u e
theorem wipe_idem {σ : L2.St} : ∀ vs : List Nat, L2.wipe (L2.wipe σ vs) vs = L2.wipe σ vs
  | [] => rfl
  | v :: vs => by
    show L2.wipe ((L2.wipe σ vs).set v none) (v :: vs) = (L2.wipe σ vs).set v none
    rw [wipe_set (List.mem_cons_self ..)]
    show (L2.wipe (L2.wipe σ vs) vs).set v none = _
    rw [wipe_idem vs]
theorem lc_weak {s : MA} {g : MG} {ts : List Nat} {t : MT} {m : ME} {vs : List Nat} (hts : ∀ i ∈ ts, i ∈ vs) : ∀ σ H Q, tD K (mLc s g t m vs) σ H Q → tLc (tDI K s) (tDG K g ts) (tDT K t) (tD K m) vs σ H Q := by
  rintro σ H Q ⟨F, μ, G, S, ρ, d, S', r, re, e, k⟩
  obtain ⟨⟨ds, S1⟩, e1, e⟩ := bindS e
  obtain ⟨hl, e⟩ := ifo e
  have hl : ds.length ≤ 1000000 := hl
  refine ⟨F, μ, G, S, ρ, ds, S1, r, re, e1, fun μ1 G1 H1 p1 x1 q1 J it => ?_⟩
  obtain ⟨⟨rs, S2⟩, e2, e⟩ := map_some e
  cases e
  intro D hD
  have hF : F D = none := q1.frm.back hD
  have hM : D ∉ μ1 := fun z => q1.trk D z hD
  refine ⟨fun i n H => ∃ μ G S acc accD rs S', Rel K (upd F D (.lst acc)) μ S H G ∧ REnv K μ G (L2.wipe σ vs) (wipeD ρ vs) ∧ i + n = ds.length ∧ ItD K J μ G ds ∧ RpA K μ G acc accD ∧ lcL g t m (wipeD ρ vs) (ds.drop i) S = some (rs, S') ∧ accD.length ≤ i ∧
      Aft K F μ G S' (fun μ' G' H' => ∀ v, Rp K μ' G' v (.lst (accD ++ rs)) → Q v H'),
    ⟨ds.length, μ1, G1, S1, [], [], rs, _, q1.frame (q1.sub.back hD) hM hF, (re.mono p1 x1).wipe vs, Nat.zero_add _, it, .nil, e2, Nat.le_refl _, k.mono p1 x1⟩, ?_⟩
  rintro i n H2 ⟨μ2, G2, S3, acc, accD, rs2, S4, q2, re2, hi, it2, ra, e3, hal, k2⟩
  obtain ⟨igo, istop⟩ := it2 _ μ2 G2 S3 H2 (Pf.refl _) (Ex.refl _) q2
  by_cases hlt : i < ds.length
  · have hd : ds[i]? = some ds[i] := List.getElem?_eq_getElem hlt
    rw [List.drop_eq_getElem_cons hlt] at e3
    unfold lcL at e3
    obtain ⟨ρ3, e4, e3⟩ := bindS e3
    obtain ⟨⟨c, S5⟩, e5, e3⟩ := bindS e3
    obtain ⟨g1, g2⟩ := igo i _ hd
    refine .inr ⟨g1, fun H => ∃ n', n' < n ∧ ∃ μ G S acc accD rs S', Rel K (upd F D (.lst acc)) μ S H G ∧ REnv K μ G (L2.wipe σ vs) (wipeD ρ vs) ∧ i + 1 + n' = ds.length ∧ ItD K J μ G ds ∧ RpA K μ G acc accD ∧ lcL g t m (wipeD ρ vs) (ds.drop (i + 1)) S = some (rs, S') ∧ accD.length ≤ i + 1 ∧
      Aft K F μ G S' (fun μ' G' H' => ∀ v, Rp K μ' G' v (.lst (accD ++ rs)) → Q v H'), fun H' h => h, fun x H3 hy => ?_⟩
    obtain ⟨G3, x3, q3, r3⟩ := g2 x H3 hy
    have re3 := re2.mono (Pf.refl _) x3
    refine ⟨_, μ2, G3, S3, _, _, ρ3, q3, re3, r3, e4, fun σ4 re4 w4 => ?_⟩
    refine ⟨(w4 vs hts).trans (wipe_idem vs), _, μ2, G3, S3, ρ3, c, S5, q3, re4, e5, fun μ5 G5 H5 p5 x5 q5 => ?_⟩
    have it5 := (it2.mono (Pf.refl μ2) x3).mono p5 x5
    have k5 := (k2.mono (Pf.refl μ2) x3).mono p5 x5
    have ra5 := (ra.mono (Pf.refl μ2) x3).mono p5 x5
    have re5 := re3.mono p5 x5
    cases c with
    | true =>
      obtain ⟨⟨y, S6⟩, e6, e3⟩ := bindS e3
      obtain ⟨⟨zs, S7⟩, e7, e3⟩ := map_some e3
      cases e3
      show tD K m σ4 H5 fun y H4 => ∃ acc, H4 D = some (.lst acc) ∧ acc.length < sizeLine ∧ _
      refine ⟨_, μ5, G5, S5, ρ3, y, S6, q5, re4.mono p5 x5, e6, fun μ6 G6 H6 p6 x6 q6 v6 r6 => ?_⟩
      refine ⟨acc, q6.frm D _ upd_same, by rw [ra.len]; exact sz6' (by omega), n - 1, by omega, μ6, G6, S6, acc ++ [v6], accD ++ [y], zs, S7, q6.reframe hF, re5.mono p6 x6, by omega, it5.mono p6 x6, (ra5.mono p6 x6).app (.cons r6 .nil), e7, by rw [List.length_append]; simp only [List.length_singleton]; omega, ?_⟩
      have k6 := k5.mono p6 x6
      rw [List.append_assoc]
      exact k6
    | false =>
      show ∃ n', _
      exact ⟨n - 1, by omega, μ5, G5, S5, acc, accD, rs2, S4, q5, re5, by omega, it5, ra5, e3, by omega, k5⟩
  · have hi' : i = ds.length := by omega
    subst hi'
    rw [List.drop_length] at e3
    cases e3
    refine .inl ⟨istop, ?_⟩
    have hg := q2.frd D _ upd_same
    rw [List.append_nil] at k2
    exact k2 μ2 (upd G2 D (.lst acc)) H2 (Pf.refl _) (Ex.new hg.1) (q2.thaw hF) _ (.lst upd_same (ra.mono (Pf.refl _) (Ex.new hg.1)))
/-- a comprehension whose list will change -/
def mLcC (s : MA) (g : MG) (t : MT) (m : ME) (vs : List Nat) : ME := fun ρ S => (s ρ S).bind fun p => if p.1.length ≤ 1000000 then (lcL g t m (wipeD ρ vs) p.1 p.2).map fun q => (.loc q.2.length, q.2 ++ [some q.1]) else none
theorem Rel.toCell {μ : List Addr} {S : Sto} {H G : Hp} {p : Addr} {vs : List V} {c : List D} (r : Rel K (upd F p (.lst vs)) μ S H G) (hF : F p = none) (h : RpA K μ G vs c) : Rel K F (μ ++ [p]) (S ++ [some c]) H G where
  sub := r.sub
  len := by rw [List.length_append, List.length_append, r.len]; rfl
  cell := fun n c' e => by
    by_cases hn : n < S.length
    · rw [List.getElem?_append_left hn] at e
      obtain ⟨a, ws, h1, h2, h3, h4⟩ := r.cell n c' e
      exact ⟨a, ws, by rw [List.getElem?_append_left (by rw [r.len]; exact hn)]; exact h1, h2, h3.mono ⟨[p], rfl⟩ (Ex.refl _), h4⟩
    · have hn' : n = S.length := by
        obtain ⟨h1, _⟩ := List.getElem?_eq_some_iff.mp e
        rw [List.length_append, List.length_singleton] at h1
        omega
      subst hn'
      rw [List.getElem?_append_right (Nat.le_refl _), Nat.sub_self] at e
      cases e
      exact ⟨p, vs, by rw [List.getElem?_append_right (by rw [r.len]; exact Nat.le_refl _), r.len, Nat.sub_self]; rfl, r.frm p _ upd_same, h.mono ⟨[p], rfl⟩ (Ex.refl _), (r.frd p _ upd_same).1⟩
  inj := fun n m a h1 h2 => by
    have hp := (r.frd p _ upd_same).2
    have key : ∀ {k : Nat} {b : Addr}, (μ ++ [p])[k]? = some b → (k < μ.length ∧ μ[k]? = some b) ∨ (k = μ.length ∧ b = p) := fun {k b} e => by
      by_cases hk : k < μ.length
      · rw [List.getElem?_append_left hk] at e
        exact .inl ⟨hk, e⟩
      · obtain ⟨hl, _⟩ := List.getElem?_eq_some_iff.mp e
        rw [List.length_append, List.length_singleton] at hl
        have : k = μ.length := by omega
        subst this
        rw [List.getElem?_append_right (Nat.le_refl _), Nat.sub_self] at e
        cases e
        exact .inr ⟨rfl, rfl⟩
    rcases key h1 with ⟨k1, g1⟩ | ⟨k1, g1⟩
    · rcases key h2 with ⟨k2, g2⟩ | ⟨k2, g2⟩
      · exact r.inj n m a g1 g2
      · subst g2
        exact absurd (List.mem_of_getElem? g1) hp
    · rcases key h2 with ⟨k2, g2⟩ | ⟨k2, g2⟩
      · subst g1
        exact absurd (List.mem_of_getElem? g2) hp
      · rw [k1, k2]
  trk := fun a ha z => by
    rcases List.mem_append.mp ha with h1 | h1
    · exact r.trk a h1 z
    · have hn : a = p := by simpa using h1
      rw [hn, r.frm p _ upd_same] at z
      cases z
  frm := (r.unframe hF).frm
  frd := fun a u e => by
    have hn : a ≠ p := ne_of_none e hF
    obtain ⟨g1, g2⟩ := (r.unframe hF).frd a u e
    refine ⟨g1, fun z => ?_⟩
    rcases List.mem_append.mp z with h1 | h1
    · exact g2 h1
    · exact hn (by simpa using h1)
theorem lc_weakC {s : MA} {g : MG} {ts : List Nat} {t : MT} {m : ME} {vs : List Nat} (hts : ∀ i ∈ ts, i ∈ vs) : ∀ σ H Q, tD K (mLcC s g t m vs) σ H Q → tLc (tDI K s) (tDG K g ts) (tDT K t) (tD K m) vs σ H Q := by
  rintro σ H Q ⟨F, μ, G, S, ρ, d, S', r, re, e, k⟩
  obtain ⟨⟨ds, S1⟩, e1, e⟩ := bindS e
  obtain ⟨hl, e⟩ := ifo e
  have hl : ds.length ≤ 1000000 := hl
  refine ⟨F, μ, G, S, ρ, ds, S1, r, re, e1, fun μ1 G1 H1 p1 x1 q1 J it => ?_⟩
  obtain ⟨⟨rs, S2⟩, e2, e⟩ := map_some e
  cases e
  intro D hD
  have hF : F D = none := q1.frm.back hD
  have hM : D ∉ μ1 := fun z => q1.trk D z hD
  refine ⟨fun i n H => ∃ μ G S acc accD rs S', Rel K (upd F D (.lst acc)) μ S H G ∧ REnv K μ G (L2.wipe σ vs) (wipeD ρ vs) ∧ i + n = ds.length ∧ ItD K J μ G ds ∧ RpA K μ G acc accD ∧ lcL g t m (wipeD ρ vs) (ds.drop i) S = some (rs, S') ∧ accD.length ≤ i ∧
      Aft K F μ G (S' ++ [some (accD ++ rs)]) (fun μ' G' H' => ∀ v, Rp K μ' G' v (.loc S'.length) → Q v H'),
    ⟨ds.length, μ1, G1, S1, [], [], rs, _, q1.frame (q1.sub.back hD) hM hF, (re.mono p1 x1).wipe vs, Nat.zero_add _, it, .nil, e2, Nat.le_refl _, k.mono p1 x1⟩, ?_⟩
  rintro i n H2 ⟨μ2, G2, S3, acc, accD, rs2, S4, q2, re2, hi, it2, ra, e3, hal, k2⟩
  obtain ⟨igo, istop⟩ := it2 _ μ2 G2 S3 H2 (Pf.refl _) (Ex.refl _) q2
  by_cases hlt : i < ds.length
  · have hd : ds[i]? = some ds[i] := List.getElem?_eq_getElem hlt
    rw [List.drop_eq_getElem_cons hlt] at e3
    unfold lcL at e3
    obtain ⟨ρ3, e4, e3⟩ := bindS e3
    obtain ⟨⟨c, S5⟩, e5, e3⟩ := bindS e3
    obtain ⟨g1, g2⟩ := igo i _ hd
    refine .inr ⟨g1, fun H => ∃ n', n' < n ∧ ∃ μ G S acc accD rs S', Rel K (upd F D (.lst acc)) μ S H G ∧ REnv K μ G (L2.wipe σ vs) (wipeD ρ vs) ∧ i + 1 + n' = ds.length ∧ ItD K J μ G ds ∧ RpA K μ G acc accD ∧ lcL g t m (wipeD ρ vs) (ds.drop (i + 1)) S = some (rs, S') ∧ accD.length ≤ i + 1 ∧
      Aft K F μ G (S' ++ [some (accD ++ rs)]) (fun μ' G' H' => ∀ v, Rp K μ' G' v (.loc S'.length) → Q v H'), fun H' h => h, fun x H3 hy => ?_⟩
    obtain ⟨G3, x3, q3, r3⟩ := g2 x H3 hy
    have re3 := re2.mono (Pf.refl _) x3
    refine ⟨_, μ2, G3, S3, _, _, ρ3, q3, re3, r3, e4, fun σ4 re4 w4 => ?_⟩
    refine ⟨(w4 vs hts).trans (wipe_idem vs), _, μ2, G3, S3, ρ3, c, S5, q3, re4, e5, fun μ5 G5 H5 p5 x5 q5 => ?_⟩
    have it5 := (it2.mono (Pf.refl μ2) x3).mono p5 x5
    have k5 := (k2.mono (Pf.refl μ2) x3).mono p5 x5
    have ra5 := (ra.mono (Pf.refl μ2) x3).mono p5 x5
    have re5 := re3.mono p5 x5
    cases c with
    | true =>
      obtain ⟨⟨y, S6⟩, e6, e3⟩ := bindS e3
      obtain ⟨⟨zs, S7⟩, e7, e3⟩ := map_some e3
      cases e3
      show tD K m σ4 H5 fun y H4 => ∃ acc, H4 D = some (.lst acc) ∧ acc.length < sizeLine ∧ _
      refine ⟨_, μ5, G5, S5, ρ3, y, S6, q5, re4.mono p5 x5, e6, fun μ6 G6 H6 p6 x6 q6 v6 r6 => ?_⟩
      refine ⟨acc, q6.frm D _ upd_same, by rw [ra.len]; exact sz6' (by omega), n - 1, by omega, μ6, G6, S6, acc ++ [v6], accD ++ [y], zs, S7, q6.reframe hF, re5.mono p6 x6, by omega, it5.mono p6 x6, (ra5.mono p6 x6).app (.cons r6 .nil), e7, by rw [List.length_append]; simp only [List.length_singleton]; omega, ?_⟩
      have k6 := k5.mono p6 x6
      rw [List.append_assoc]
      exact k6
    | false =>
      show ∃ n', _
      exact ⟨n - 1, by omega, μ5, G5, S5, acc, accD, rs2, S4, q5, re5, by omega, it5, ra5, e3, by omega, k5⟩
  · have hi' : i = ds.length := by omega
    subst hi'
    rw [List.drop_length] at e3
    cases e3
    refine .inl ⟨istop, ?_⟩
    rw [List.append_nil] at k2
    exact k2 _ G2 H2 ⟨[D], rfl⟩ (Ex.refl _) (q2.toCell hF ra) _ (.loc (by rw [List.getElem?_append_right (by rw [q2.len]; exact Nat.le_refl _), q2.len, Nat.sub_self]; rfl))
theorem d_lc {elt tg iter : Expr} {ifs : List Expr} {scope : Scope} {own : List (Str × Nat)} {s : MA} {g : MG} {ts : List Nat} {t : MT} {m : ME} (hc : X.calm = true) (hN : X.N.Nodup) (hi : PI X tg iter (tDI X.K s)) (ok : BlkOk X.N X.env.scope scope own)
    (hts : ∀ i ∈ ts, i ∈ own.map (·.2))
    (hg : ∀ (s : Shared) (H : Hp) (C : Addr) (cl : List (Str × Addr)) (fp : List Addr), PG (X.blk s H scope (compEnvC scope cl C X.env) fp) tg (tDG X.K g ts))
    (ht : ∀ (s : Shared) (H : Hp) (C : Addr) (cl : List (Str × Addr)) (fp : List Addr), PTs (X.blk s H scope (compEnvC scope cl C X.env) fp) ifs (tDT X.K t))
    (he : ∀ (s : Shared) (H : Hp) (C : Addr) (cl : List (Str × Addr)) (fp : List Addr), PE (X.blk s H scope (compEnvC scope cl C X.env) fp) elt (tD X.K m)) (hs : ∀ x, foldedSetIterable iter X.env x = pure x := by intro _; rfl) :
    PE X (.ListComp elt [⟨tg, iter, ifs, 0⟩] scope pos) (tD X.K (mLc s g t m (own.map (·.2)))) :=
  (pe_lc hc hN hi ok hg ht he hs).weak (lc_weak hts)
theorem d_lcC {elt tg iter : Expr} {ifs : List Expr} {scope : Scope} {own : List (Str × Nat)} {s : MA} {g : MG} {ts : List Nat} {t : MT} {m : ME} (hc : X.calm = true) (hN : X.N.Nodup) (hi : PI X tg iter (tDI X.K s)) (ok : BlkOk X.N X.env.scope scope own)
    (hts : ∀ i ∈ ts, i ∈ own.map (·.2))
    (hg : ∀ (s : Shared) (H : Hp) (C : Addr) (cl : List (Str × Addr)) (fp : List Addr), PG (X.blk s H scope (compEnvC scope cl C X.env) fp) tg (tDG X.K g ts))
    (ht : ∀ (s : Shared) (H : Hp) (C : Addr) (cl : List (Str × Addr)) (fp : List Addr), PTs (X.blk s H scope (compEnvC scope cl C X.env) fp) ifs (tDT X.K t))
    (he : ∀ (s : Shared) (H : Hp) (C : Addr) (cl : List (Str × Addr)) (fp : List Addr), PE (X.blk s H scope (compEnvC scope cl C X.env) fp) elt (tD X.K m)) (hs : ∀ x, foldedSetIterable iter X.env x = pure x := by intro _; rfl) :
    PE X (.ListComp elt [⟨tg, iter, ifs, 0⟩] scope pos) (tD X.K (mLcC s g t m (own.map (·.2)))) :=
  (pe_lc hc hN hi ok hg ht he hs).weak (lc_weakC hts)
end
end DL
/-! DLg -/
/-! DL: defs of the text, calls, the end of a law. -/
namespace DL
open PySem PySem.Spec PyProof.Rows L2
variable {F : Hp}

/-! ### a def as a function over data -/
abbrev MF := List D → Sto → Option (D × Sto)
/-- what a def's body is worth, by its arguments -/
def mFn (n : Nat) (b : MS) : MF := fun ds S => match b (ds.map some ++ List.replicate (n - ds.length) none) S with
  | some (.rt d, S') => some (d, S')
  | some (.nx _, S') => some (.non, S')
  | _ => none
def spD (K : PySem.W.Frag) (ps : List Str) (m : MF) (vs : List V) (H : Hp) (Q : VK) : Prop := ∃ F μ G S ds d S', Rel K F μ S H G ∧ RpA K μ G vs ds ∧ ds.length = ps.length ∧ m ds S = some (d, S') ∧ Aft K F μ G S' fun μ' G' H' => ∀ v, Rp K μ' G' v d → Q v H'
/-- the def at f is the function m, where nothing is being shown, with room for k calls -/
structure FnG (P : Program) (w : World) (K : PySem.W.Frag) (mg : Str → Option Value) (base : Heap) (k : Nat) (f : Addr) (fd : FuncData) (ps : List Str) (m : MF) : Prop where
  run : ∀ (A : Around) (out : List Env) (s : Shared) (H : Hp) (args : Args) (us : List Value) (vs : List V) (Q : VK), Room k A → A.guards = some [] → Env0 P w K mg base A out s H → BindsTo s fd args (ps.zip us) → Vals vs us → spD K ps m vs H Q →
    codeAny (model P w) A (.call (.ref f) args) (fun r s' => ∃ u, r = .ok (.ret u) ∧ CE out P w H s Q u s') s
theorem renv_start {K : PySem.W.Frag} {μ : List Addr} {G : Hp} {N : List Str} {vs : List V} {ds : List D} (h : RpA K μ G vs ds) : REnv K μ G (start N vs) (ds.map some ++ List.replicate (N.length - ds.length) none) := by
  have hl := h.len
  refine ⟨by unfold L2.start; simp [hl], fun i d e => ?_⟩
  by_cases hi : i < ds.length
  · rw [List.getElem?_append_left (by simpa using hi), List.getElem?_map] at e
    obtain ⟨d', h1, h2⟩ := map_some e
    cases h2
    obtain ⟨v, g1, g2⟩ := h.get h1
    refine ⟨v, ?_, g2⟩
    unfold L2.start
    rw [List.getElem?_append_left (by simpa [hl] using hi), List.getElem?_map, g1]
    rfl
  · rw [List.getElem?_append_right (by simpa using hi), List.getElem?_replicate] at e
    split at e <;> cases e
section
variable {P : Program} {w : World} {K : PySem.W.Frag} {mg : Str → Option Value} {base : Heap}
/-- a def of the text, by its body -/
theorem fnG_of {x q : Str} {st : Stmt} {f : Addr} {fd : FuncData} {N ps : List Str} {k : Nat} {b : MS} (FF : Fun K x q st f fd) (sc : FnScope N ps (defScope st))
    (hb : ∀ (cdv : Value) (A : Around) (out : List Env) (s : Shared) (H : Hp), Room k (A.deeper (envOfC q (defScope st) s.heap.objs.size f cdv)) → (A.deeper (envOfC q (defScope st) s.heap.objs.size f cdv)).guards = some [] →
      PSs (cxOf CX0 P w K mg base N q (defScope st) f cdv A out s H E0).nox (defBody st) (tDS K b)) : FnG P w K mg base (k + 1) f fd ps (mFn N.length b) := by
  obtain ⟨oc, od, kV, doc, pm, an, cdv, ct, osl, rfl, lk, hcd⟩ := FF.ex
  refine ⟨fun A out s H args us vs Q hr hgd e0 hbd rv ⟨F, μ, G, S, ds, d, S', r, ra, hlen, e, kk⟩ => ?_⟩
  have stays : ∀ a o, base.get? a = some o → s.heap.get? a = some o := fun a o z => (e0.bs a o z).1
  have inK : K.In s.heap := e0.mod.kin.keeps stays
  have places : ∀ y ∈ ps.zip us, (defScope st).names.lookup y.1 = some .local ∨ ((defScope st).names.lookup y.1 = some .cell ∧ ((cellsFrom (s.heap.objs.size + 1) (defScope st).names []).lookup y.1).isSome = true) := by
    rintro ⟨y, u⟩ hy
    exact (sc.par y (List.of_mem_zip hy).1).imp id fun z => ⟨z, PySem.W.cellsFrom_some _ _ _ (.inl z)⟩
  apply codeAny_call_function hr.depth (inK _ _ lk) rfl sc.co sc.gen rfl (PySem.W.codeRec_of inK hcd) (hbd _ _ _ _ ?_)
  apply wpAny_newFunctionEnv_cells sc.kind places
  rintro env rfl s1 x1
  refine ⟨(e0.mod.nolimit.keeps stays).keeps x1.toInCall.keep, codeAny_func ?_⟩
  have body := hb cdv A out s H (hr.deeper _) hgd
  have I0 := inv_start (CX := CX0) (E := E0) sc hr.hd e0 (ra.len.trans hlen) rv x1
  have goal : tDS K b { nx := fun _ H' => Q .non H', rt := Q } (start N vs) H := by
    unfold mFn at e
    split at e
    · rename_i d' S1 eb
      cases e
      exact ⟨F, μ, G, S, _, _, _, r, renv_start ra, eb, kk⟩
    · rename_i ρ' S1 eb
      cases e
      exact ⟨F, μ, G, S, _, _, _, r, renv_start ra, eb, fun μ1 G1 H1 p1 x1 q1 σ1 _ => kk μ1 G1 H1 p1 x1 q1 _ .non⟩
    · cases e
  refine wpAny_mono (body.run [] s1 (start N vs) H _ (I0.wish _) goal) (fun fl s2 hs => ?_) fun _ _ z => z.elim
  have back : ∀ {σ' : L2.St} {H' : Hp} {v : V} {u : Value}, Inv (cxOf CX0 P w K mg base N q (defScope st) f cdv A out s H E0).nox [] σ' H' s2 → RelV v u → Q v H' → CE out P w H s Q u s2 :=
    fun {σ' H' v u} J rv hq => ⟨v, H', J.os, J.bare, J.base, J.hok, rv, hq⟩
  match fl, hs with
  | .ret u, ⟨v, σ', H', J, rv, hq⟩ => exact ⟨u, rfl, back J rv hq⟩
  | .next, ⟨σ', H', J, hq⟩ => exact ⟨.none, rfl, back (v := V.non) J rfl hq⟩
  | .brk, ⟨_, _, _, z⟩ => exact z.elim
  | .cont, ⟨_, _, _, z⟩ => exact z.elim
theorem FnG.mono {j k : Nat} {f : Addr} {fd : FuncData} {ps : List Str} {m : MF} (G : FnG P w K mg base j f fd ps m) (h : j ≤ k) : FnG P w K mg base k f fd ps m := ⟨fun A out s H args us vs Q hr => G.run A out s H args us vs Q (hr.mono h)⟩
theorem FnG.eqv {k : Nat} {f : Addr} {fd : FuncData} {ps : List Str} {m m' : MF} (G : FnG P w K mg base k f fd ps m) (h : ∀ ds S r, m' ds S = some r → m ds S = some r) : FnG P w K mg base k f fd ps m' :=
  ⟨fun A out s H args us vs Q hr hg e0 hb rv ⟨F, μ, G', S, ds, d, S', r, ra, hl, e, kk⟩ => G.run A out s H args us vs Q hr hg e0 hb rv ⟨F, μ, G', S, ds, d, S', r, ra, hl, h _ _ _ e, kk⟩⟩
end
section
variable {X : Cx} {pos p : Pos}
def mCall (m : MF) (a : MA) : ME := fun ρ S => (a ρ S).bind fun p => m p.1 p.2
theorem d_call {k : Nat} {f : Addr} {fd : FuncData} {ps : List Str} {m : MF} {x : Str} {e : Expr} {es : List Expr} {a : MA} (FG : FnG X.prog X.w X.K X.mg X.base k f fd ps m) (hr : Room k X.A) (hgd : X.A.guards = some []) (hm : X.mg x = some (.ref f)) (hk : PySem.W.keepIn X.K (.ref f) = true) (hb : Binds X.K fd ps [])
    (hla : ∀ ρ S ds S', a ρ S = some (ds, S') → ds.length = ps.length) (ha : PA X (e :: es) (tDA X.K a)) (hg : Gl X x := by rfl) (hdb : (x == ("__debug__" : Str)) = false := by decide) (he : starEach (e :: es) X.env = (false, eval e X.env) :: starEach es X.env := by rfl) (hpl : (backTo pos (starEach es X.env)).any (·.1) = false := by rfl) :
    PE X (.Call (.Name x p) (e :: es) [] pos) (tD X.K (mCall m a)) := ⟨fun pins s σ H Q I ⟨F, μ, G, S, ρ, d, S', r, re, ee, kk⟩ => by
  obtain ⟨⟨ds, S1⟩, e1, e2⟩ := bindS ee
  have want : tDA X.K a σ H fun vs H1 => spD X.K ps m vs H1 Q := ⟨F, μ, G, S, ρ, ds, S1, r, re, e1, fun μ1 G1 H1 p1 x1 q1 vs rv => ⟨F, μ1, G1, S1, ds, d, S', q1, rv, hla _ _ _ _ e1, e2, kk.mono p1 x1⟩⟩
  apply wpAny_Call_Name_kw (ld_glob I hg hm ?_ hdb)
  apply PySem.W.callWith_K (h₀ := X.base) I.ok.mod.kin hk (thn (ha.run pos pins s σ H _ I want) ?_) he hpl
  rintro us s1 ⟨vs, H1, I1, rv, sp⟩
  refine ⟨I1.kIn, wpAny_call ?_⟩
  obtain ⟨F1, μ1, G1, S2, ds1, d1, S3, r1, ra1, hl1, ee1, kk1⟩ := sp
  have hlu : (us ++ []).length = ps.length := by rw [List.append_nil, ← rv.length, ra1.len, hl1]
  have bd := hb s1 us I1.kIn hlu
  rw [List.append_nil] at bd
  apply codeAny_mono (FG.run X.A X.stack s1 H1 ⟨us, []⟩ us vs Q hr hgd I1.env0 bd rv ⟨F1, μ1, G1, S2, ds1, d1, S3, r1, ra1, hl1, ee1, kk1⟩)
  rintro res s2 ⟨u, rfl, hq⟩
  exact I1.after hq⟩
/-- the number of arguments -/
theorem len_nil : ∀ ρ S ds S', mNil ρ S = some (ds, S') → ds.length = 0 := fun ρ S ds S' h => by
  cases h
  rfl
theorem len_cons {m : ME} {a : MA} {n : Nat} (h : ∀ ρ S ds S', a ρ S = some (ds, S') → ds.length = n) : ∀ ρ S ds S', mCons m a ρ S = some (ds, S') → ds.length = n + 1 := fun ρ S ds S' e => by
  obtain ⟨⟨d1, S1⟩, e1, e⟩ := bindS e
  obtain ⟨⟨d2, S2⟩, e2, e⟩ := bindS e
  cases e
  rw [List.length_cons, h _ _ _ _ e2]
/-! ### built-ins by values -/
def CalD (K : PySem.W.Frag) (r : List V → Hp → VK → Prop) (f : MF) : Prop := ∀ F μ G S H vs ds z S' (Q : VK), Rel K F μ S H G → RpA K μ G vs ds → f ds S = some (z, S') → (Aft K F μ G S' fun μ' G' H' => ∀ v, Rp K μ' G' v z → Q v H') → r vs H Q
theorem cal_weak {K : PySem.W.Frag} {r : List V → Hp → VK → Prop} {f : MF} {a : MA} (h : CalD K r f) : ∀ σ H Q, tD K (mCall f a) σ H Q → tCB r (tDA K a) σ H Q := fun σ H Q ⟨F, μ, G, S, ρ, d, S', r, re, e, kk⟩ => by
  obtain ⟨⟨ds, S1⟩, e1, e2⟩ := bindS e
  exact ⟨F, μ, G, S, ρ, ds, S1, r, re, e1, fun μ1 G1 H1 p1 x1 q1 vs rv => h F μ1 G1 S1 H1 vs ds d S' Q q1 rv e2 (kk.mono p1 x1)⟩
theorem d_callB {x : Str} {id : String} {r : List V → Hp → VK → Prop} {f : MF} {e : Expr} {es : List Expr} {a : MA} (hc : CallR X (.builtin id) r) (h : CalD X.K r f) (hm : X.mg x = none) (ha : PA X (e :: es) (tDA X.K a)) (hv : bootBuiltins x = some (.builtin id) := by decide +kernel) (hg : Gl X x := by rfl)
    (hn : x ≠ "__name__" := by decide) (hdb : (x == ("__debug__" : Str)) = false := by decide) (he : starEach (e :: es) X.env = (false, eval e X.env) :: starEach es X.env := by rfl) (hpl : (backTo pos (starEach es X.env)).any (·.1) = false := by rfl) :
    PE X (.Call (.Name x p) (e :: es) [] pos) (tD X.K (mCall f a)) := (pe_callB hc hg hm hv ha hn hdb he hpl).weak (cal_weak h)
theorem d_callTy {x : Str} {id : String} {r : List V → Hp → VK → Prop} {f : MF} {e : Expr} {es : List Expr} {a : MA} (hc : CallR X (.type id) r) (h : CalD X.K r f) (hm : X.mg x = none) (ha : PA X (e :: es) (tDA X.K a)) (hv : bootBuiltins x = some (.type id) := by decide +kernel) (hg : Gl X x := by rfl)
    (hn : x ≠ "__name__" := by decide) (hdb : (x == ("__debug__" : Str)) = false := by decide) (he : starEach (e :: es) X.env = (false, eval e X.env) :: starEach es X.env := by rfl) (hpl : (backTo pos (starEach es X.env)).any (·.1) = false := by rfl) :
    PE X (.Call (.Name x p) (e :: es) [] pos) (tD X.K (mCall f a)) := (pe_callTy hc hg hm hv ha hn hdb he hpl).weak (cal_weak h)
variable {K : PySem.W.Frag}
def fLen : MF := fun ds S => match ds with
  | [.str y] => if y.length ≤ 1000000 then some (.int y.length, S) else none
  | [.loc n] => match S[n]? with
    | some (some c) => some (.int c.length, S)
    | _ => none
  | [d] => (seqOf d).map fun c => (.int c.length, S)
  | _ => none
theorem c_len : CalD K (fun xs H Q => ∃ x n, xs = [x] ∧ LenV K x H n ∧ Q (.int n) H) fLen := by
  intro F μ G S H vs ds z S' Q r ra hf a
  unfold fLen at hf
  split at hf
  · obtain ⟨h, hz⟩ := ifs hf
    cases hz
    cases ra with
    | cons r1 rr =>
      cases rr
      cases r1
      exact ⟨_, _, rfl, ⟨sz6 h, rfl⟩, tD_now a r (.int _)⟩
  · rename_i n
    split at hf
    · rename_i c hc
      cases hf
      cases ra with
      | cons r1 rr =>
        cases rr
        cases r1 with
        | loc hm =>
          obtain ⟨b, ws, h1, h2, h3, h4⟩ := r.cell n c hc
          rw [hm] at h1
          cases h1
          exact ⟨_, _, rfl, .inl ⟨ws, SqL.of h2, rfl⟩, by rw [h3.len]; exact tD_now a r (.int _)⟩
    · cases hf
  · rename_i d _ _
    obtain ⟨c, h1, h2⟩ := map_some hf
    cases h2
    cases ra with
    | cons r1 rr =>
      cases rr
      obtain ⟨q, ws, rfl, hs, ha⟩ := seqOf_sq r.sub r1 h1
      rcases hs with hs | hs
      · exact ⟨_, _, rfl, .inl ⟨ws, hs, rfl⟩, by rw [ha.len]; exact tD_now a r (.int _)⟩
      · exact ⟨_, _, rfl, .inr ⟨ws, hs, rfl⟩, by rw [ha.len]; exact tD_now a r (.int _)⟩
  · cases hf
def fAbs : MF := fun ds S => match ds with
  | [.int i] => some (.int (if i < 0 then -i else i), S)
  | _ => none
theorem c_abs : CalD K (fun xs H Q => ∃ i, xs = [.int i] ∧ Q (.int (if i < 0 then -i else i)) H) fAbs := by
  intro F μ G S H vs ds z S' Q r ra hf a
  unfold fAbs at hf
  split at hf
  · cases hf
    cases ra with
    | cons r1 rr =>
      cases rr
      cases r1
      exact ⟨_, rfl, tD_now a r (.int _)⟩
  · cases hf
def fInt : MF := fun ds S => match ds with
  | [.int i] => some (.int i, S)
  | [.bl b] => some (.int (if b then 1 else 0), S)
  | _ => none
theorem c_int : CalD K (fun xs H Q => (∃ i, xs = [.int i] ∧ Q (.int i) H) ∨ ∃ k, xs = [.bl k] ∧ Q (.int (if k then 1 else 0)) H) fInt := by
  intro F μ G S H vs ds z S' Q r ra hf a
  unfold fInt at hf
  split at hf
  · cases hf
    cases ra with
    | cons r1 rr =>
      cases rr
      cases r1
      exact .inl ⟨_, rfl, tD_now a r (.int _)⟩
  · cases hf
    cases ra with
    | cons r1 rr =>
      cases rr
      cases r1
      exact .inr ⟨_, rfl, tD_now a r (.int _)⟩
  · cases hf
/-- tuple(list), tuple(tuple) -/
def fTup : MF := fun ds S => match ds with
  | [.lst xs] => some (.tup xs, S)
  | [.rol xs] => some (.tup xs, S)
  | [.tup xs] => some (.tup xs, S)
  | [.loc n] => match S[n]? with
    | some (some c) => some (.tup c, S)
    | _ => none
  | _ => none
theorem c_tup : CalD K (fun xs H Q => ∃ p ys, xs = [.ref p] ∧ ((SqL K H p ys ∧ ∀ l, H l = none → Q (.ref l) (upd H l (.tup ys))) ∨ (SqT K H p ys ∧ Q (.ref p) H))) fTup := by
  intro F μ G S H vs ds z S' Q r ra hf a
  have mk : ∀ {ws : List V} {xs : List D}, RpA K μ G ws xs → ∀ l, H l = none → Rp K μ (upd G l (.tup ws)) (.ref l) (.tup xs) := fun {ws xs} h l hl => .tup (SqT.of upd_same) (h.mono (Pf.refl _) (Ex.new (r.sub.back hl)))
  unfold fTup at hf
  split at hf
  · cases hf
    cases ra with
    | cons r1 rr =>
      cases rr
      cases r1 with
      | lst h1 h2 => exact ⟨_, _, rfl, .inl ⟨SqL.of (r.sub _ _ h1), fun l hl => tD_new a r hl (mk h2 l hl)⟩⟩
  · cases hf
    cases ra with
    | cons r1 rr =>
      cases rr
      cases r1 with
      | rol h1 h2 => exact ⟨_, _, rfl, .inl ⟨r.sub.sl h1, fun l hl => tD_new a r hl (mk h2 l hl)⟩⟩
  · cases hf
    cases ra with
    | cons r1 rr =>
      cases rr
      cases r1 with
      | tup h1 h2 => exact ⟨_, _, rfl, .inr ⟨r.sub.st h1, tD_now a r (.tup h1 h2)⟩⟩
  · rename_i n
    split at hf
    · rename_i c hc
      cases hf
      cases ra with
      | cons r1 rr =>
        cases rr
        cases r1 with
        | loc hm =>
          obtain ⟨b, ws, h1, h2, h3, h4⟩ := r.cell n c hc
          rw [hm] at h1
          cases h1
          exact ⟨_, _, rfl, .inl ⟨SqL.of h2, fun l hl => tD_new a r hl (mk h3 l hl)⟩⟩
    · cases hf
  · cases hf
/-- list(list), list(tuple): a frozen copy -/
theorem signs_vals : ∀ {l : List Nat} {us : List Value}, us.length = l.length → (∀ (j : Nat) (v : Value), us[j]? = some v → ∃ c u, l[j]? = some c ∧ v = .str ⟨#[c]⟩ u) → Vals (l.map fun c => V.str ⟨#[c]⟩) us
  | [], [], _, _ => .nil
  | [], _ :: _, h, _ => by simp at h
  | _ :: _, [], h, _ => by simp at h
  | c :: l, u :: us, h, f => by
    obtain ⟨c', t, h1, h2⟩ := f 0 u rfl
    cases h1
    exact .cons ⟨t, h2⟩ (signs_vals (by simpa using h) fun j v hj => f (j + 1) v (by simpa using hj))
def rLisS : List V → Hp → VK → Prop := fun xs H Q => ∃ z : Str, xs = [.str z] ∧ z.length ≤ sizeLine ∧ ∀ l, H l = none → Q (.ref l) (upd H l (.lst (z.cps.toList.map fun c => .str ⟨#[c]⟩)))
theorem call_lisS {X : Cx} (hh : X.A.handled = none) : CallR X (.type "list") rLisS := by
  intro pins s σ H xs us Q I r h
  obtain ⟨z, rfl, hz, q⟩ := h
  obtain ⟨u, rfl, t, rfl⟩ := vals1 r
  refine PySem.call_list_str hh z t (fun h' tk acc' c' kp hS it => ?_) hz
  have hv : Vals (z.cps.toList.map fun c => V.str ⟨#[c]⟩) acc'.toList := signs_vals (by simp [it.1]) fun j v hj => by
    obtain ⟨c, u, h1, h2⟩ := it.2 j v (by rw [← Array.getElem?_toList]; exact hj)
    exact ⟨c, u, by rw [Array.getElem?_toList]; exact h1, h2⟩
  have hl : (z.cps.toList.map fun c => V.str ⟨#[c]⟩).length ≤ sizeLine := by
    rw [List.length_map, Array.length_toList]
    exact hz
  exact ⟨.ref s.heap.objs.size, _, I.laid (t' := tk) kp (Nat.le_refl _) (show ObjOk X.prog X.w _ h' _ (.lst _) from ⟨hl, acc'.toList, c', hv, hS⟩), rfl, q _ (I.hok.fresh (Nat.le_refl _))⟩
def rLis (K : PySem.W.Frag) : List V → Hp → VK → Prop := fun xs H Q => (∃ p ys, xs = [.ref p] ∧ (SqL K H p ys ∨ SqT K H p ys) ∧ ∀ l, H l = none → Q (.ref l) (upd H l (.lst ys))) ∨ rLisS xs H Q
theorem call_lis {X : Cx} (hh : X.A.handled = none) : CallR X (.type "list") (rLis X.K) := call_list_of.or (call_lisS hh)
def fLis : MF := fun ds S => match ds with
  | [.loc n] => match S[n]? with
    | some (some c) => some (.lst c, S)
    | _ => none
  | [.str z] => if z.length ≤ 1000000 then some (.lst (z.cps.toList.map fun c => .str ⟨#[c]⟩), S) else none
  | [d] => (seqOf d).map fun c => (.lst c, S)
  | _ => none
theorem RpA.signs {μ : List Addr} {G : Hp} : ∀ l : List Nat, RpA K μ G (l.map fun c => V.str ⟨#[c]⟩) (l.map fun c => D.str ⟨#[c]⟩)
  | [] => .nil
  | c :: l => .cons (.str _) (RpA.signs l)
theorem c_lis : CalD K (rLis K) fLis := by
  intro F μ G S H vs ds z S' Q r ra hf a
  have mk : ∀ {ws : List V} {xs : List D}, RpA K μ G ws xs → ∀ l, H l = none → Rp K μ (upd G l (.lst ws)) (.ref l) (.lst xs) := fun {ws xs} h l hl => .lst upd_same (h.mono (Pf.refl _) (Ex.new (r.sub.back hl)))
  unfold fLis at hf
  split at hf
  · rename_i n
    split at hf
    · rename_i c hc
      cases hf
      cases ra with
      | cons r1 rr =>
        cases rr
        cases r1 with
        | loc hm =>
          obtain ⟨b, ws, h1, h2, h3, h4⟩ := r.cell n c hc
          rw [hm] at h1
          cases h1
          exact .inl ⟨_, _, rfl, .inl (SqL.of h2), fun l hl => tD_new a r hl (mk h3 l hl)⟩
    · cases hf
  · obtain ⟨h, hz⟩ := ifs hf
    cases hz
    cases ra with
    | cons r1 rr =>
      cases rr
      cases r1
      exact .inr ⟨_, rfl, sz6 h, fun l hl => tD_new a r hl (mk (RpA.signs _) l hl)⟩
  · obtain ⟨c, h1, h2⟩ := map_some hf
    cases h2
    cases ra with
    | cons r1 rr =>
      cases rr
      obtain ⟨q, ws, rfl, hs, ha⟩ := seqOf_sq r.sub r1 h1
      exact .inl ⟨_, _, rfl, hs, fun l hl => tD_new a r hl (mk ha l hl)⟩
  · cases hf
/-- all, any of a list of truths -/
def blsOf : List D → Option (List Bool)
  | [] => some []
  | .bl b :: r => (blsOf r).map (b :: ·)
  | _ => none
theorem bls_V {μ : List Addr} {G : Hp} : ∀ {vs : List V} {ds : List D} {bs : List Bool}, RpA K μ G vs ds → blsOf ds = some bs → vs = bs.map V.bl
  | _, _, _, .nil, h => by
    cases h
    rfl
  | _, _, _, .cons (d := d) r t, h => by
    cases d with
    | bl b =>
      cases r
      obtain ⟨bs, h1, h2⟩ := map_some h
      cases h2
      rw [bls_V t h1]
      rfl
    | _ => cases h
def fAll : MF := fun ds S => match ds with
  | [.lst xs] => (blsOf xs).map fun bs => (.bl (bs.all id), S)
  | _ => none
def fAny : MF := fun ds S => match ds with
  | [.lst xs] => (blsOf xs).map fun bs => (.bl (bs.any id), S)
  | _ => none
theorem c_all : CalD K (rAll K) fAll := by
  intro F μ G S H vs ds z S' Q r ra hf a
  unfold fAll at hf
  split at hf
  · obtain ⟨bs, h1, h2⟩ := map_some hf
    cases h2
    cases ra with
    | cons r1 rr =>
      cases rr
      cases r1 with
      | lst g1 g2 =>
        have e := bls_V g2 h1
        subst e
        exact ⟨_, bs, rfl, SqL.of (r.sub _ _ g1), tD_now a r (.bl _)⟩
  · cases hf
theorem c_any : CalD K (rAny K) fAny := by
  intro F μ G S H vs ds z S' Q r ra hf a
  unfold fAny at hf
  split at hf
  · obtain ⟨bs, h1, h2⟩ := map_some hf
    cases h2
    cases ra with
    | cons r1 rr =>
      cases rr
      cases r1 with
      | lst g1 g2 =>
        have e := bls_V g2 h1
        subst e
        exact ⟨_, bs, rfl, SqL.of (r.sub _ _ g1), tD_now a r (.bl _)⟩
  · cases hf
end
end DL
/-! DLh -/
/-! DL: isinstance, repr, stores into lists, texts, written tables. -/
namespace DL
open PySem PySem.Spec PyProof.Rows L2
variable {F : Hp}
section
variable {X : Cx} {pos p : Pos} {K : PySem.W.Frag}
/-! ### isinstance(x, T) -/
def tyOf (d : D) (S : Sto) : Option String := match d with
  | .non => some "NoneType"
  | .bl _ => some "bool"
  | .int _ => some "int"
  | .str _ => some "str"
  | .tup _ => some "tuple"
  | .lst _ => some "list"
  | .rol _ => some "list"
  | .dct _ _ => some "dict"
  | .loc n => match S[n]? with
    | some (some _) => some "list"
    | _ => none
def isA (T t : String) : Bool := t == T || (T == "int" && t == "bool")
def tyOk (T : String) : Bool := ["NoneType", "bool", "int", "str", "tuple", "list", "dict"].all fun t => kitB t T == some (isA T t)
def mIsi (T : String) (m : ME) : ME := fun ρ S => (m ρ S).bind fun p => (tyOf p.1 p.2).map fun t => (.bl (isA T t), p.2)
theorem tyX_of {μ : List Addr} {G H : Hp} {S : Sto} {v : V} {d : D} {t : String} (r : Rel K F μ S H G) (q : Rp K μ G v d) (h : tyOf d S = some t) : TyX K H v (.type t) ∧ t ∈ ["NoneType", "bool", "int", "str", "tuple", "list", "dict"] := by
  cases q with
  | non => cases h; exact ⟨.base .non, by simp⟩
  | bl b => cases h; exact ⟨.base (.bl b), by simp⟩
  | int b => cases h; exact ⟨.base (.int b), by simp⟩
  | str b => cases h; exact ⟨.base (.str b), by simp⟩
  | tup h1 h2 =>
    cases h
    refine ⟨?_, by simp⟩
    rcases r.sub.st h1 with (e | ⟨o, e⟩) | ⟨o, its, n, hk, hc, _⟩
    · exact .base (.tup e)
    · exact .fTuple e
    · exact .kTuple hk hc
  | lst h1 h2 => cases h; exact ⟨.base (.lst (r.sub _ _ h1)), by simp⟩
  | rol h1 h2 =>
    cases h
    refine ⟨?_, by simp⟩
    rcases r.sub.sl h1 with (e | ⟨o, e⟩) | ⟨o, its, n, hk, hc, _⟩
    · exact .base (.lst e)
    · exact .base (.frz e)
    · exact .kList hk hc
  | dct h1 h2 h3 => cases h; exact ⟨.base (.dK (r.sub _ _ h1)), by simp⟩
  | @loc a n hm =>
    unfold tyOf at h
    simp only at h
    split at h
    · rename_i c hc
      cases h
      obtain ⟨b', vs, h1, h2, h3, h4⟩ := r.cell n c hc
      rw [hm] at h1
      cases h1
      exact ⟨.base (.lst h2), by simp⟩
    · cases h
theorem d_isi {T : String} {x y : Str} {e : Expr} {m : ME} {q : Pos} (hT : tyOk T = true) (hm : X.mg x = none) (hmT : X.mg y = none) (he : PE X e (tD X.K m)) (hx : bootBuiltins x = some (.builtin "isinstance") := by decide +kernel) (hy : bootBuiltins y = some (.type T) := by decide +kernel) (hg : Gl X x := by rfl) (hg2 : Gl X y := by rfl)
    (hn : x ≠ "__name__" := by decide) (hdb : (x == ("__debug__" : Str)) = false := by decide) (hn2 : y ≠ "__name__" := by decide) (hdb2 : (y == ("__debug__" : Str)) = false := by decide)
    (h1 : starEach [e, .Name y q] X.env = (false, eval e X.env) :: starEach [.Name y q] X.env := by rfl) (h2 : starEach [.Name y q] X.env = (false, eval (.Name y q) X.env) :: starEach [] X.env := by rfl) (hpl : (backTo pos (starEach [.Name y q] X.env)).any (·.1) = false := by rfl) :
    PE X (.Call (.Name x p) [e, .Name y q] [] pos) (tD X.K (mIsi T m)) :=
  (pe_callB call_isi hg hm hx (pa_cons he (pa_cons (pe_bltn (v := .ty T) hg2 hmT hy rfl hn2 hdb2) pa_nil h2) h1) hn hdb h1 hpl).weak fun σ H Q ⟨F, μ, G, S, ρ, d, S', r, re, e, k⟩ => by
    obtain ⟨⟨d1, S1⟩, e1, e⟩ := bindS e
    obtain ⟨t, e2, e⟩ := map_some e
    cases e
    refine ⟨F, μ, G, S, ρ, d1, _, r, re, e1, fun μ1 G1 H1 p1 x1 q1 v1 r1 => ?_⟩
    obtain ⟨g1, g2⟩ := tyX_of q1 r1 e2
    have g3 : kitB t T = some (isA T t) := by
      have := List.all_eq_true.mp hT t g2
      exact eq_of_beq this
    exact ⟨v1, .ty T, _, _, isA T t, rfl, .ty T, g1, kit_ty g3, k μ1 G1 H1 p1 x1 q1 _ (.bl _)⟩

/-! ### repr of data -/
def D.shb (d : D) : Bool := d.full && d.py.showable && decide (d.py.depth ≤ 60) && decide (d.py.shown.length ≤ 1000000)
def fRepr : MF := fun ds S => match ds with
  | [d] => if (see S d).shb = true then some (.str (see S d).py.shown, S) else none
  | _ => none
theorem c_repr : CalD K (rReprQ K) fRepr := by
  intro F μ G S H vs ds z S' Q r ra hf a
  unfold fRepr at hf
  split at hf
  · obtain ⟨h, hz⟩ := ifs hf
    cases hz
    unfold D.shb at h
    rw [Bool.and_eq_true, Bool.and_eq_true, Bool.and_eq_true, decide_eq_true_eq, decide_eq_true_eq] at h
    obtain ⟨⟨⟨h1, h2⟩, h3⟩, h4⟩ := h
    cases ra with
    | cons r1 rr =>
      cases rr
      exact ⟨_, _, rfl, r1.dqS r h1, h2, h3, sz6 h4, tD_now a r (.str _)⟩
  · cases hf

/-! ### a list that changes -/
theorem Rel.write {μ : List Addr} {S : Sto} {H G : Hp} {n : Nat} {a : Addr} {c c' : List D} {vs' : List V} (r : Rel K F μ S H G) (hn : S[n]? = some (some c)) (hm : μ[n]? = some a) (h : RpA K μ G vs' c') : Rel K F μ (S.set n (some c')) (upd H a (.lst vs')) G := by
  obtain ⟨b, ws, h1, h2, h3, h4⟩ := r.cell n c hn
  rw [hm] at h1
  cases h1
  have hnl : n < S.length := (List.getElem?_eq_some_iff.mp hn).1
  have hF : F a = none := by
    cases q : F a with
    | none => rfl
    | some u => exact absurd (List.mem_of_getElem? hm) (r.frd a u q).2
  refine ⟨r.sub.off h4, by rw [List.length_set]; exact r.len, fun k e hk => ?_, r.inj, fun b hb z => ?_, r.frm.off hF, r.frd⟩
  · by_cases hkn : n = k
    · subst hkn
      rw [List.getElem?_set_self hnl] at hk
      cases hk
      exact ⟨a, vs', hm, upd_same, h, h4⟩
    · rw [List.getElem?_set_ne hkn] at hk
      obtain ⟨b, ws2, g1, g2, g3, g4⟩ := r.cell k e hk
      have ne : b ≠ a := fun z => hkn (r.inj n k a hm (z ▸ g1))
      exact ⟨b, ws2, g1, by rw [upd_ne ne]; exact g2, g3, g4⟩
  · by_cases hba : b = a
    · rw [hba, upd_same] at z
      cases z
    · rw [upd_ne hba] at z
      exact r.trk b hb z
/-- o[i] = e -/
def stIx (o i v : D) (S : Sto) : Option Sto := match o, i with
  | .loc n, .int k => match S[n]? with
    | some (some c) => (ixN c.length k).map fun j => S.set n (some (c.set j v))
    | _ => none
  | _, _ => none
def sStIx (mo mi me : ME) : MS := fun ρ S => (me ρ S).bind fun p => (mo ρ p.2).bind fun q => (mi ρ q.2).bind fun t => (stIx q.1 t.1 p.1 t.2).map fun S' => (.nx ρ, S')
theorem st_ix {μ : List Addr} {G H : Hp} {S S' : Sto} {o i v : V} {dO di dv : D} {Q : Hp → Prop} (r : Rel K F μ S H G) (r1 : Rp K μ G o dO) (r2 : Rp K μ G i di) (r3 : Rp K μ G v dv) (h : stIx dO di dv S = some S') (q : ∀ H', Rel K F μ S' H' G → Q H') : rSetL o i v H Q := by
  cases dO with
  | loc n =>
    cases di with
    | int k =>
      unfold stIx at h
      simp only at h
      split at h
      · rename_i c hc
        obtain ⟨j, hj, h⟩ := map_some h
        cases h
        cases r1 with
        | loc hm =>
          cases r2
          obtain ⟨b, ws, h1, h2, h3, h4⟩ := r.cell n c hc
          rw [hm] at h1
          cases h1
          exact ⟨_, ws, k, j, rfl, rfl, h2, by rw [h3.len]; exact hj, q _ (r.write hc hm (h3.set r3 j))⟩
      · cases h
    | _ => cases h
  | _ => cases h
theorem s_stix {o i e : Expr} {mo mi me : ME} {tp : Pos} (he : PE X e (tD X.K me)) (ho : PE X o (tD X.K mo)) (hi : PE X i (tD X.K mi))
    (ha : ∀ v, assign (.Subscript o i tp) X.env v = (do
      let ov ← holding [v] (eval o X.env)
      let iv ← holding [v, ov] (eval i X.env)
      standAt tp
      holding [v, ov, iv] (setItem ov iv v)
      release [v, ov, iv] []) := by intro _; rfl)
    (hs : swapsWithSole [.Subscript o i tp] e pos.line X.env = pure false := by rfl) (hw : swappedStores [.Subscript o i tp] e X.env = pure none := by rfl)
    (h1 : (assignEach [.Subscript o i tp] X.env).map (·.2) = [assign (.Subscript o i tp) X.env] := by rfl) : PS X (.Assign [.Subscript o i tp] e pos) (tDS X.K (sStIx mo mi me)) :=
  (ps_asg he (pg_sub ho hi set_list ha) hs hw h1).weak fun E σ H ⟨F, μ, G, S, ρ, f, S', r, re, e, k⟩ => by
    obtain ⟨⟨d1, S1⟩, e1, e⟩ := bindS e
    obtain ⟨⟨d2, S2⟩, e2, e⟩ := bindS e
    obtain ⟨⟨d3, S3⟩, e3, e⟩ := bindS e
    obtain ⟨S4, e4, e⟩ := map_some e
    cases e
    refine ⟨F, μ, G, S, ρ, d1, S1, r, re, e1, fun μ1 G1 H1 p1 x1 q1 v1 r1 => ?_⟩
    refine ⟨F, μ1, G1, S1, ρ, d2, S2, q1, re.mono p1 x1, e2, fun μ2 G2 H2 p2 x2 q2 v2 r2 => ?_⟩
    refine ⟨F, μ2, G2, S2, ρ, d3, S3, q2, re.mono (p1.trans p2) (x1.trans x2), e3, fun μ3 G3 H3 p3 x3 q3 v3 r3 => ?_⟩
    exact st_ix q3 (r2.mono p3 x3) r3 (r1.mono (p2.trans p3) (x2.trans x3)) e4 fun H4 q4 => k μ3 G3 H4 ((p1.trans p2).trans p3) ((x1.trans x2).trans x3) q4 σ (re.mono ((p1.trans p2).trans p3) ((x1.trans x2).trans x3))
/-- o[i], to be changed at once -/
def rGetN (K : PySem.W.Frag) : V → V → Hp → VK → Prop := fun x y H Q => ∃ p xs i v, x = .ref p ∧ y = .int i ∧ SqL K H p xs ∧ 0 ≤ i ∧ xs[i.toNat]? = some v ∧ Q v H
theorem get_list : PGet X (rGetN X.K) := by
  intro pins s σ H o i ov iv Q I ro ri h
  obtain ⟨a, xs, k, v, rfl, rfl, hs, h0, hv, q⟩ := h
  cases ro
  obtain ⟨t, rfl⟩ := ri
  obtain ⟨its, rv, pl, hz⟩ := I.list hs
  obtain ⟨u, hu, ru⟩ := rv.get hv
  have hlt : k.toNat < xs.length := (List.getElem?_eq_some_iff.mp hv).1
  have hn := line63
  exact wpAny_getItem_list pl.isList h0 (by omega) (by simpa using hu) ⟨v, H, I, ru, q⟩
/-- o[i] += e -/
def sAugIx (mo mi me : ME) : MS := fun ρ S => (mo ρ S).bind fun p => (mi ρ p.2).bind fun q => match p.1, q.1 with
  | .loc n, .int k => (match q.2[n]? with
    | some (some c) => if 0 ≤ k then (match c[k.toNat]? with
      | some (.int x) => (me ρ q.2).bind fun t => (match t.1 with
        | .int y => (stIx p.1 q.1 (.int (x + y)) t.2).map fun S' => (.nx ρ, S')
        | _ => none)
      | _ => none) else none
    | _ => none)
  | _, _ => none
theorem s_augix {o i e : Expr} {mo mi me : ME} {tp : Pos} (ho : PE X o (tD X.K mo)) (hi : PE X i (tD X.K mi)) (he : PE X e (tD X.K me))
    (ha : ∀ ov iv new, augStore i ov iv new = (do holding [new, ov, iv] (setItem ov iv new); release [new, ov, iv] []; pure .next) := by intros; rfl) : PS X (.AugAssign (.Subscript o i tp) .Add e pos) (tDS X.K (sAugIx mo mi me)) :=
  (ps_augS ho hi get_list he ip_add set_list ha).weak fun E σ H ⟨F, μ, G, S, ρ, f, S', r, re, e, k⟩ => by
    obtain ⟨⟨d1, S1⟩, e1, e⟩ := bindS e
    obtain ⟨⟨d2, S2⟩, e2, e⟩ := bindS e
    refine ⟨F, μ, G, S, ρ, d1, S1, r, re, e1, fun μ1 G1 H1 p1 x1 q1 v1 r1 => ?_⟩
    refine ⟨F, μ1, G1, S1, ρ, d2, S2, q1, re.mono p1 x1, e2, fun μ2 G2 H2 p2 x2 q2 v2 r2 => ?_⟩
    cases d1 with
    | loc n =>
      cases d2 with
      | int kk =>
        simp only at e
        split at e
        · rename_i c hc
          obtain ⟨h0, e⟩ := ifo e
          split at e
          · rename_i x hx
            obtain ⟨⟨d3, S3⟩, e3, e⟩ := bindS e
            simp only at e
            split at e
            · rename_i y
              obtain ⟨S4, e4, e⟩ := map_some e
              cases e
              have r1' := r1.mono p2 x2
              cases r1 with
              | loc hm =>
                cases r2
                obtain ⟨b, ws, h1, h2, h3, h4⟩ := q2.cell n c hc
                rw [p2.get hm] at h1
                cases h1
                obtain ⟨v, g1, g2⟩ := h3.get hx
                cases g2
                refine ⟨_, ws, kk, _, rfl, rfl, SqL.of h2, h0, g1, ?_⟩
                refine ⟨F, μ2, G2, S2, ρ, _, S3, q2, re.mono (p1.trans p2) (x1.trans x2), e3, fun μ3 G3 H3 p3 x3 q3 v3 r3 => ?_⟩
                cases r3
                refine ⟨x, y, rfl, rfl, ?_⟩
                exact st_ix q3 (r1'.mono p3 x3) (.int kk) (.int _) e4 fun H4 q4 => k μ3 G3 H4 ((p1.trans p2).trans p3) ((x1.trans x2).trans x3) q4 σ (re.mono ((p1.trans p2).trans p3) ((x1.trans x2).trans x3))
            · cases e
          · cases e
        · cases e
      | _ => cases e
    | _ => cases e
/-- name += e, of ints -/
def sAug (i : Nat) (g : Int → Int → Int) (me : ME) : MS := fun ρ S => match ρ[i]? with
  | some (some (.int x)) => (me ρ S).bind fun t => (match t.1 with
    | .int y => some (.nx (ρ.set i (some (.int (g x y)))), t.2)
    | _ => none)
  | _ => none
theorem aug_weak {i : Nat} {g : Int → Int → Int} {me : ME} : ∀ E σ H, tDS K (sAug i g me) E σ H → tAug i (tD K me) (ipI g) E σ H := by
  rintro E σ H ⟨F, μ, G, S, ρ, f, S', r, re, e, k⟩
  unfold sAug at e
  split at e
  · rename_i x hx
    obtain ⟨⟨d3, S3⟩, e3, e⟩ := bindS e
    simp only at e
    split at e
    · rename_i y
      cases e
      obtain ⟨v, h1, h2⟩ := re.at' i _ hx
      cases h2
      refine ⟨_, h1, F, μ, G, S, ρ, _, _, r, re, e3, fun μ3 G3 H3 p3 x3 q3 v3 r3 => ?_⟩
      cases r3
      exact ⟨x, y, rfl, rfl, k μ3 G3 H3 p3 x3 q3 _ ((re.mono p3 x3).set i (.int _))⟩
    · cases e
  · cases e
theorem s_aug {i : Nat} {nm : Str} {e : Expr} {op : Operator} {g : Int → Int → Int} {me : ME} {pos' : Pos} (hN : X.N.Nodup) (ho : PIp X op (ipI g)) (he : PE X e (tD X.K me)) (hi : X.N[i]? = some nm := by rfl) (hx : Loc X.env.scope nm := by first | exact Or.inl rfl | exact Or.inr rfl) (hf : X.fn nm = true ∨ X.env.scope.names.lookup nm = some .local := by first | exact .inl rfl | exact .inr rfl | assumption) :
    PS X (.AugAssign (.Name nm pos') op e pos) (tDS X.K (sAug i g me)) := (ps_aug hN hi hx he ho hf).weak aug_weak

/-! ### texts -/
def mSt0 (f : Str → D) (m : ME) : ME := fun ρ S => (m ρ S).bind fun p => match p.1 with
  | .str y => some (f y, p.2)
  | _ => none
theorem st0_weak {g : Str → V} {f : Str → D} {m : ME} (h : ∀ μ G y, Rp K μ G (g y) (f y)) : ∀ σ H Q, tD K (mSt0 f m) σ H Q → tM0 (fun x xs H Q => ∃ a, x = .str a ∧ xs = [] ∧ True ∧ Q (g a) H) (tD K m) σ H Q := fun σ H Q ⟨F, μ, G, S, ρ, d, S', r, re, e, k⟩ => by
  obtain ⟨⟨d1, S1⟩, e1, e⟩ := bindS e
  simp only at e
  split at e
  · cases e
    refine ⟨F, μ, G, S, ρ, _, _, r, re, e1, fun μ1 G1 H1 p1 x1 q1 v1 r1 => ?_⟩
    cases r1
    exact ⟨⟨_, rfl⟩, _, rfl, rfl, trivial, k μ1 G1 H1 p1 x1 q1 _ (h _ _ _)⟩
  · cases e
variable {o e : Expr} {apos : Pos} {m n : ME}
theorem d_isascii (h : PE X o (tD X.K m)) (hb : attributeBase o "isascii" X.env (eval o X.env) = eval o X.env := by rfl) (hl : (apos.endLine == pos.line) = true := by rfl) : PE X (.Call (.Attribute o "isascii" apos) [] [] pos) (tD X.K (mSt0 (fun y => .bl (Txt.isascii y)) m)) :=
  (pe_m0 F.slot_str_isascii F.type_str_isascii mt_isascii h hb hl).weak (st0_weak fun _ _ _ => .bl _)
theorem d_isalpha (h : PE X o (tD X.K m)) (hb : attributeBase o "isalpha" X.env (eval o X.env) = eval o X.env := by rfl) (hl : (apos.endLine == pos.line) = true := by rfl) : PE X (.Call (.Attribute o "isalpha" apos) [] [] pos) (tD X.K (mSt0 (fun y => .bl (Txt.isalpha y)) m)) :=
  (pe_m0 F.slot_str_isalpha F.type_str_isalpha mt_isalpha h hb hl).weak (st0_weak fun _ _ _ => .bl _)
theorem d_islower (h : PE X o (tD X.K m)) (hb : attributeBase o "islower" X.env (eval o X.env) = eval o X.env := by rfl) (hl : (apos.endLine == pos.line) = true := by rfl) : PE X (.Call (.Attribute o "islower" apos) [] [] pos) (tD X.K (mSt0 (fun y => .bl (Txt.islower y)) m)) :=
  (pe_m0 F.slot_str_islower F.type_str_islower mt_islower h hb hl).weak (st0_weak fun _ _ _ => .bl _)
/-- x.split(y) -/
def fSplit : MOp := fun d e S => match d, e with
  | .str a, .str b => if (b.length == 0) = false ∧ a.length ≤ 100000 then some (.lst ((Txt.split a b).map D.str), S) else none
  | _, _ => none
theorem RpA.strs {μ : List Addr} {G : Hp} : ∀ ys : List Str, RpA K μ G (ys.map V.str) (ys.map D.str)
  | [] => .nil
  | y :: ys => .cons (.str y) (RpA.strs ys)
theorem d_split (ho : PE X o (tD X.K m)) (he : PE X e (tD X.K n)) (hs : starEach [e] X.env = [(false, eval e X.env)] := by rfl) (hbase : attributeBase o "split" X.env (eval o X.env) = eval o X.env := by rfl) (hline : (apos.endLine == pos.line) = true := by rfl) :
    PE X (.Call (.Attribute o "split" apos) [e] [] pos) (tD X.K (mBin fSplit m n)) := (pe_split ho he hs hbase hline).weak fun σ H Q ⟨F, μ, G, S, ρ, d, S', r, re, e, k⟩ => by
  obtain ⟨⟨d1, S1⟩, e1, e⟩ := bindS e
  obtain ⟨⟨d2, S2⟩, e2, e⟩ := bindS e
  unfold fSplit at e
  simp only at e
  split at e
  · obtain ⟨h, hz⟩ := ifs e
    cases hz
    refine ⟨F, μ, G, S, ρ, _, _, r, re, e1, fun μ1 G1 H1 p1 x1 q1 v1 r1 => ?_⟩
    cases r1
    refine ⟨⟨_, rfl⟩, F, μ1, G1, S1, ρ, _, _, q1, re.mono p1 x1, e2, fun μ2 G2 H2 p2 x2 q2 v2 r2 => ?_⟩
    cases r2
    refine ⟨_, _, rfl, rfl, h.1, sz6 (by omega), fun l hl => tD_new (k.mono (p1.trans p2) (x1.trans x2)) q2 hl (.lst upd_same (RpA.strs _))⟩
  · cases e
/-- x.join(list of texts) -/
def strsOf : List D → Option (List Str)
  | [] => some []
  | .str b :: r => (strsOf r).map (b :: ·)
  | _ => none
theorem strs_V {μ : List Addr} {G : Hp} : ∀ {vs : List V} {ds : List D} {bs : List Str}, RpA K μ G vs ds → strsOf ds = some bs → vs = bs.map V.str
  | _, _, _, .nil, h => by
    cases h
    rfl
  | _, _, _, .cons (d := d) r t, h => by
    cases d with
    | str b =>
      cases r
      obtain ⟨bs, h1, h2⟩ := map_some h
      cases h2
      rw [strs_V t h1]
      rfl
    | _ => cases h
def fJoin : MOp := fun d e S => match d with
  | .str a => (match seqOf e with
    | some xs => (strsOf xs).bind fun ys => if (ys.map (·.length)).sum + ys.length * a.length ≤ 1000000 then some (.str (Txt.join a ys), S) else none
    | none => none)
  | _ => none
theorem d_join (ho : PE X o (tD X.K m)) (he : PE X e (tD X.K n)) (hs : starEach [e] X.env = [(false, eval e X.env)] := by rfl) (hbase : attributeBase o "join" X.env (eval o X.env) = eval o X.env := by rfl) (hline : (apos.endLine == pos.line) = true := by rfl) :
    PE X (.Call (.Attribute o "join" apos) [e] [] pos) (tD X.K (mBin fJoin m n)) := (pe_join ho he hs hbase hline).weak fun σ H Q ⟨F, μ, G, S, ρ, d, S', r, re, e, k⟩ => by
  obtain ⟨⟨d1, S1⟩, e1, e⟩ := bindS e
  obtain ⟨⟨d2, S2⟩, e2, e⟩ := bindS e
  unfold fJoin at e
  simp only at e
  split at e
  · split at e
    · rename_i xs hx
      obtain ⟨ys, hy, e⟩ := bindS e
      obtain ⟨h, hz⟩ := ifs e
      cases hz
      refine ⟨F, μ, G, S, ρ, _, _, r, re, e1, fun μ1 G1 H1 p1 x1 q1 v1 r1 => ?_⟩
      cases r1
      refine ⟨⟨_, rfl⟩, F, μ1, G1, S1, ρ, _, _, q1, re.mono p1 x1, e2, fun μ2 G2 H2 p2 x2 q2 v2 r2 => ?_⟩
      obtain ⟨q, ws, rfl, hs, ha⟩ := seqOf_sq q2.sub r2 hx
      have ev := strs_V ha hy
      subst ev
      exact ⟨_, _, ys, rfl, rfl, hs, by omega, k μ2 G2 H2 (p1.trans p2) (x1.trans x2) q2 _ (.str _)⟩
    · cases e
  · cases e

/-! ### written tables -/
/-- at d stands a written dict, these its keys and values -/
def TabE : List DictEntry → List (Str × V) → Prop
  | [], [] => True
  | e :: es, t :: ts => (∃ k, e.key = .str t.1 k) ∧ RelV t.2 e.val ∧ TabE es ts
  | _, _ => False
structure Tab (K : PySem.W.Frag) (w : World) (d : Addr) (tb : List (Str × V)) : Prop where
  ex : ∃ es n, KDict K w d es n ∧ TabE es.toList tb
theorem tabE_find {z : Str} : ∀ {es : List DictEntry} {tb : List (Str × V)}, TabE es tb → (match tb.lookup z with
    | some v => ∃ e, es.find? (·.key.isStr z) = some e ∧ RelV v e.val
    | none => es.find? (·.key.isStr z) = none) ∧ es.any (·.refKey) = false
  | [], [], _ => ⟨rfl, rfl⟩
  | e :: es, t :: ts, ⟨⟨k, h1⟩, h2, h3⟩ => by
    obtain ⟨i1, i2⟩ := tabE_find (z := z) h3
    have hr : e.refKey = false := by
      unfold DictEntry.refKey
      rw [h1]
    refine ⟨?_, by rw [List.any_cons, hr, i2]; rfl⟩
    have hk : e.key.isStr z = (t.1 == z) := by
      rw [h1]
      rfl
    rw [List.find?_cons, hk]
    obtain ⟨t1, t2⟩ := t
    rw [List.lookup_cons]
    by_cases hz : t1 = z
    · have b1 : (z == t1) = true := by rw [hz]; exact beq_self_eq_true _
      have b2 : (t1 == z) = true := by rw [hz]; exact beq_self_eq_true _
      rw [b1]
      show (∃ e', (match t1 == z with | true => some e | false => _) = some e' ∧ _)
      rw [b2]
      exact ⟨e, rfl, h2⟩
    · have b1 : (z == t1) = false := beq_eq_false_iff_ne.mpr fun q => hz q.symm
      have b2 : (t1 == z) = false := beq_eq_false_iff_ne.mpr hz
      rw [b1]
      show (match ts.lookup z with
        | some v => ∃ e', (match t1 == z with | true => some e | false => es.find? (·.key.isStr z)) = some e' ∧ RelV v e'.val
        | none => (match t1 == z with | true => some e | false => es.find? (·.key.isStr z)) = none)
      rw [b2]
      exact i1
theorem tab_ns {w : World} {d : Addr} {es : Array DictEntry} {n : Nat} {tb : List (Str × V)} (D : KDict K w d es n) (h : TabE es.toList tb) (z : Str) : match tb.lookup z with
    | some v => ∃ u, PySem.W.nsIn K d z = some (some u) ∧ RelV v u
    | none => PySem.W.nsIn K d z = some none := by
  obtain ⟨h1, h2⟩ := tabE_find (z := z) h
  unfold PySem.W.nsIn
  rw [D.at_]
  cases q : tb.lookup z with
  | some v =>
    rw [q] at h1
    obtain ⟨e, g1, g2⟩ := h1
    refine ⟨e.val, ?_, g2⟩
    show (match es.toList.find? (·.key.isStr z) with | some e => some (some e.val) | none => _) = _
    rw [g1]
  | none =>
    rw [q] at h1
    show (match es.toList.find? (·.key.isStr z) with | some e => some (some e.val) | none => if es.toList.any (·.refKey) then none else some none) = _
    rw [show es.toList.find? (·.key.isStr z) = none from h1]
    show (if es.toList.any (·.refKey) then none else some none) = _
    rw [h2]
    rfl
/-- k in TABLE, k not in TABLE, TABLE[k]: k a text -/
def mTin (neg : Bool) (tb : List (Str × V)) (m : ME) : ME := mSt0 (fun z => .bl (if neg then !(tb.lookup z).isSome else (tb.lookup z).isSome)) m
def scV : V → Option D
  | .non => some .non
  | .bl b => some (.bl b)
  | .int i => some (.int i)
  | .str s => some (.str s)
  | _ => none
def mTix (tb : List (Str × V)) (m : ME) : ME := fun ρ S => (m ρ S).bind fun p => match p.1 with
  | .str z => (tb.lookup z).bind fun v => (scV v).map fun d => (d, p.2)
  | _ => none
theorem scV_rp {μ : List Addr} {G : Hp} {v : V} {d : D} (h : scV v = some d) : Rp K μ G v d := by
  cases v <;> first | (cases h; done) | (cases h; constructor)
theorem tin_weak {w : World} {d : Addr} {tb : List (Str × V)} {m : ME} {es : Array DictEntry} {n : Nat} (D : KDict K w d es n) (hE : TabE es.toList tb) : ∀ σ H Q, tD K (mTin false tb m) σ H Q → tOp (fun x y H Q => ∃ (z : Str) (r : Option Value), x = .str z ∧ y = .ref d ∧ PySem.W.nsIn K d z = some r ∧ Q (.bl r.isSome) H) (tD K m) (tC (.ref d)) σ H Q := fun σ H Q ⟨F, μ, G, S, ρ, dd, S', r, re, e, k⟩ => by
  obtain ⟨⟨d1, S1⟩, e1, e⟩ := bindS e
  simp only at e
  split at e
  · rename_i z
    cases e
    refine ⟨F, μ, G, S, ρ, _, _, r, re, e1, fun μ1 G1 H1 p1 x1 q1 v1 r1 => ?_⟩
    cases r1
    have hz := tab_ns D hE z
    have fin := k μ1 G1 H1 p1 x1 q1
    cases ql : tb.lookup z with
    | some v =>
      rw [ql] at hz fin
      obtain ⟨u, g1, g2⟩ := hz
      exact ⟨z, _, rfl, rfl, g1, fin _ (.bl _)⟩
    | none =>
      rw [ql] at hz fin
      exact ⟨z, _, rfl, rfl, hz, fin _ (.bl _)⟩
  · cases e
theorem tnin_weak {w : World} {d : Addr} {tb : List (Str × V)} {m : ME} {es : Array DictEntry} {n : Nat} (D : KDict K w d es n) (hE : TabE es.toList tb) : ∀ σ H Q, tD K (mTin true tb m) σ H Q → tOp (fun x y H Q => ∃ (z : Str) (r : Option Value), x = .str z ∧ y = .ref d ∧ PySem.W.nsIn K d z = some r ∧ Q (.bl (!r.isSome)) H) (tD K m) (tC (.ref d)) σ H Q := fun σ H Q ⟨F, μ, G, S, ρ, dd, S', r, re, e, k⟩ => by
  obtain ⟨⟨d1, S1⟩, e1, e⟩ := bindS e
  simp only at e
  split at e
  · rename_i z
    cases e
    refine ⟨F, μ, G, S, ρ, _, _, r, re, e1, fun μ1 G1 H1 p1 x1 q1 v1 r1 => ?_⟩
    cases r1
    have hz := tab_ns D hE z
    have fin := k μ1 G1 H1 p1 x1 q1
    cases ql : tb.lookup z with
    | some v =>
      rw [ql] at hz fin
      obtain ⟨u, g1, g2⟩ := hz
      exact ⟨z, _, rfl, rfl, g1, fin _ (.bl _)⟩
    | none =>
      rw [ql] at hz fin
      exact ⟨z, _, rfl, rfl, hz, fin _ (.bl _)⟩
  · cases e
theorem d_tin {d : Addr} {tb : List (Str × V)} {y : Str} {q : Pos} (T : Tab X.K X.w d tb) (hm : X.mg y = some (.ref d)) (h : PE X e (tD X.K m)) (hg : Gl X y := by rfl) (hb : behindInMarks .In (.Name y q) = false := by rfl) (hd : (y == ("__debug__" : Str)) = false := by decide) : PE X (.Compare e [.In] [.Name y q] pos) (tD X.K (mTin false tb m)) :=
  let ⟨_, _, D, hE⟩ := T.ex
  (pe_cmpR (op_in_kd D) h (pe_glob (v := .ref d) hg hm rfl hd) hb).weak (tin_weak D hE)
theorem d_tnin {d : Addr} {tb : List (Str × V)} {y : Str} {q : Pos} (T : Tab X.K X.w d tb) (hm : X.mg y = some (.ref d)) (h : PE X e (tD X.K m)) (hg : Gl X y := by rfl) (hb : behindInMarks .NotIn (.Name y q) = false := by rfl) (hd : (y == ("__debug__" : Str)) = false := by decide) : PE X (.Compare e [.NotIn] [.Name y q] pos) (tD X.K (mTin true tb m)) :=
  let ⟨_, _, D, hE⟩ := T.ex
  (pe_cmpR (op_notIn_kd D) h (pe_glob (v := .ref d) hg hm rfl hd) hb).weak (tnin_weak D hE)
theorem t_tin {d : Addr} {tb : List (Str × V)} {y : Str} {q : Pos} (T : Tab X.K X.w d tb) (hm : X.mg y = some (.ref d)) (h : PE X e (tD X.K m)) (hg : Gl X y := by rfl) (hb : behindInMarks .In (.Name y q) = false := by rfl) (hd : (y == ("__debug__" : Str)) = false := by decide) : PT X (.Compare e [.In] [.Name y q] pos) (tDT X.K (mBl (mTin false tb m))) :=
  let ⟨_, _, D, hE⟩ := T.ex
  (pt_cmpR (op_in_kd D) h (pe_glob (v := .ref d) hg hm rfl hd) hb).weak fun σ H Q z => tTest_mono (tin_weak D hE) σ H Q (tB_weak σ H Q z)
theorem t_tnin {d : Addr} {tb : List (Str × V)} {y : Str} {q : Pos} (T : Tab X.K X.w d tb) (hm : X.mg y = some (.ref d)) (h : PE X e (tD X.K m)) (hg : Gl X y := by rfl) (hb : behindInMarks .NotIn (.Name y q) = false := by rfl) (hd : (y == ("__debug__" : Str)) = false := by decide) : PT X (.Compare e [.NotIn] [.Name y q] pos) (tDT X.K (mBl (mTin true tb m))) :=
  let ⟨_, _, D, hE⟩ := T.ex
  (pt_cmpR (op_notIn_kd D) h (pe_glob (v := .ref d) hg hm rfl hd) hb).weak fun σ H Q z => tTest_mono (tnin_weak D hE) σ H Q (tB_weak σ H Q z)
theorem d_tix {d : Addr} {tb : List (Str × V)} {y : Str} {q : Pos} (T : Tab X.K X.w d tb) (hm : X.mg y = some (.ref d)) (h : PE X e (tD X.K m)) (hs : PlainIx e := by exact fun _ _ => rfl) (hg : Gl X y := by rfl) (hd : (y == ("__debug__" : Str)) = false := by decide) : PE X (.Subscript (.Name y q) e pos) (tD X.K (mTix tb m)) := by
  obtain ⟨es, n, D, hE⟩ := T.ex
  refine (pe_ix ix_kdict (pe_glob (v := .ref d) hg hm rfl hd) h hs).weak fun σ H Q ⟨F, μ, G, S, ρ, dd, S', r, re, e, k⟩ => ?_
  obtain ⟨⟨d1, S1⟩, e1, e⟩ := bindS e
  simp only at e
  split at e
  · rename_i z
    obtain ⟨v, hv, e⟩ := bindS e
    obtain ⟨d2, hd2, e⟩ := map_some e
    cases e
    refine ⟨F, μ, G, S, ρ, _, _, r, re, e1, fun μ1 G1 H1 p1 x1 q1 v1 r1 => ?_⟩
    cases r1
    have hz := tab_ns D hE z
    rw [hv] at hz
    obtain ⟨u, g1, g2⟩ := hz
    exact ⟨d, z, v, rfl, rfl, ⟨es, n, u, D.at_, D.lit, g1, g2⟩, k μ1 G1 H1 p1 x1 q1 _ (scV_rp hd2)⟩
  · cases e
/-- a constant of the module -/
theorem d_gint {x : Str} {i : Int} {t : Tok} (hm : X.mg x = some (.int i t)) (hg : Gl X x := by rfl) (hd : (x == ("__debug__" : Str)) = false := by decide) : PE X (.Name x pos) (tD X.K (mC (.int i))) := d_c (pe_glob (v := .int i) hg hm ⟨t, rfl⟩ hd) fun _ _ => .int i
theorem d_gref {x : Str} {a : Addr} {d : D} (hm : X.mg x = some (.ref a)) (h : ∀ μ G, Rp X.K μ G (.ref a) d) (hg : Gl X x := by rfl) (hd : (x == ("__debug__" : Str)) = false := by decide) : PE X (.Name x pos) (tD X.K (mC d)) := d_c (pe_glob (v := .ref a) hg hm rfl hd) h
/-- name = [..] on one line -/
theorem s_setLc {i : Nat} {y : Str} {py : Pos} {elt tg iter : Expr} {ifs : List Expr} {scope : Scope} {own : List (Str × Nat)} {spos : Pos} {s : MA} {g : MG} {ts : List Nat} {t : MT} {m : ME} (hc : X.calm = true) (hN : X.N.Nodup)
    (hi : PI X tg iter (tDI X.K s)) (ok : BlkOk X.N X.env.scope scope own) (hts : ∀ i ∈ ts, i ∈ own.map (·.2))
    (hg : ∀ (s : Shared) (H : Hp) (C : Addr) (cl : List (Str × Addr)) (fp : List Addr), PG (X.blk s H scope (compEnvC scope cl C X.env) fp) tg (tDG X.K g ts))
    (ht : ∀ (s : Shared) (H : Hp) (C : Addr) (cl : List (Str × Addr)) (fp : List Addr), PTs (X.blk s H scope (compEnvC scope cl C X.env) fp) ifs (tDT X.K t))
    (he : ∀ (s : Shared) (H : Hp) (C : Addr) (cl : List (Str × Addr)) (fp : List Addr), PE (X.blk s H scope (compEnvC scope cl C X.env) fp) elt (tD X.K m))
    (hy : X.N[i]? = some y := by rfl) (hyl : X.env.scope.names.lookup y = some .local := by rfl)
    (hsw : swapsWith (.ListComp elt [⟨tg, iter, ifs, 0⟩] scope pos) (some (.Name y py)) spos.line X.env = pure true := by exact sw_true rfl rfl rfl (by decide +kernel)) (hs : ∀ x, foldedSetIterable iter X.env x = pure x := by intro _; rfl) :
    PS X (.Assign [.Name y py] (.ListComp elt [⟨tg, iter, ifs, 0⟩] scope pos) spos) (tDS X.K (sSet i (mLc s g t m (own.map (·.2))))) :=
  (ps_setLc hc hN hy hyl hsw hi ok hg ht he hs).weak fun D σ H ⟨F, μ, G, S, ρ, d, S', r, re, e, k⟩ => by
    obtain ⟨⟨d1, S1⟩, e1, e⟩ := map_some e
    cases e
    exact lc_weak hts σ H _ ⟨F, μ, G, S, ρ, _, _, r, re, e1, fun μ1 G1 H1 p1 x1 q1 v1 r1 => k μ1 G1 H1 p1 x1 q1 _ ((re.mono p1 x1).set i r1)⟩
/-- the same, of a list that will change -/
theorem s_setLcC {i : Nat} {y : Str} {py : Pos} {elt tg iter : Expr} {ifs : List Expr} {scope : Scope} {own : List (Str × Nat)} {spos : Pos} {s : MA} {g : MG} {ts : List Nat} {t : MT} {m : ME} (hc : X.calm = true) (hN : X.N.Nodup)
    (hi : PI X tg iter (tDI X.K s)) (ok : BlkOk X.N X.env.scope scope own) (hts : ∀ i ∈ ts, i ∈ own.map (·.2))
    (hg : ∀ (s : Shared) (H : Hp) (C : Addr) (cl : List (Str × Addr)) (fp : List Addr), PG (X.blk s H scope (compEnvC scope cl C X.env) fp) tg (tDG X.K g ts))
    (ht : ∀ (s : Shared) (H : Hp) (C : Addr) (cl : List (Str × Addr)) (fp : List Addr), PTs (X.blk s H scope (compEnvC scope cl C X.env) fp) ifs (tDT X.K t))
    (he : ∀ (s : Shared) (H : Hp) (C : Addr) (cl : List (Str × Addr)) (fp : List Addr), PE (X.blk s H scope (compEnvC scope cl C X.env) fp) elt (tD X.K m))
    (hy : X.N[i]? = some y := by rfl) (hyl : X.env.scope.names.lookup y = some .local := by rfl)
    (hsw : swapsWith (.ListComp elt [⟨tg, iter, ifs, 0⟩] scope pos) (some (.Name y py)) spos.line X.env = pure true := by exact sw_true rfl rfl rfl (by decide +kernel)) (hs : ∀ x, foldedSetIterable iter X.env x = pure x := by intro _; rfl) :
    PS X (.Assign [.Name y py] (.ListComp elt [⟨tg, iter, ifs, 0⟩] scope pos) spos) (tDS X.K (sSet i (mLcC s g t m (own.map (·.2))))) :=
  (ps_setLc hc hN hy hyl hsw hi ok hg ht he hs).weak fun D σ H ⟨F, μ, G, S, ρ, d, S', r, re, e, k⟩ => by
    obtain ⟨⟨d1, S1⟩, e1, e⟩ := map_some e
    cases e
    exact lc_weakC hts σ H _ ⟨F, μ, G, S, ρ, _, _, r, re, e1, fun μ1 G1 H1 p1 x1 q1 v1 r1 => k μ1 G1 H1 p1 x1 q1 _ ((re.mono p1 x1).set i r1)⟩
end
end DL
/-! DLj -/
/-! DLj: displays of dicts. -/
namespace DL
open PySem PySem.Spec PyProof.Rows L2
variable {F : Hp}
section
variable {X : Cx} {pos : Pos} {keys : List (Option Expr)} {values : List Expr} {ks : List Key} {m : MA}
/-- the pairs of a display, its keys written out -/
structure PPd (X : Cx) (pos : Pos) (keys : List (Option Expr)) (values : List Expr) (ks : List Key) (m : MA) : Prop where
  ex : ∃ trs, PPs X pos keys values trs ∧ ∀ σ H (Q : List (V × V) → Hp → Prop), (∃ F μ G S ρ ds S', Rel X.K F μ S H G ∧ REnv X.K μ G σ ρ ∧ m ρ S = some (ds, S') ∧ ds.length = ks.length ∧
    Aft X.K F μ G S' fun μ' G' H' => ∀ vs, RpA X.K μ' G' vs ds → Q ((ks.zip vs).map fun kv => (kV kv.1, kv.2)) H') → tPairs trs σ H Q
theorem kv_nil : PPd X pos [] [] [] mNil := ⟨[], pps_nil, fun σ H Q ⟨F, μ, G, S, ρ, ds, S', r, re, e, l, a⟩ => by
  cases e
  exact a μ G H (Pf.refl _) (Ex.refl _) r [] .nil⟩
theorem kv_cons {k : Key} {ek ev : Expr} {mv : ME} (hk : PE X ek (tC (kV k))) (hv : PE X ev (tD X.K mv)) (hr : PPd X pos keys values ks m) : PPd X pos (some ek :: keys) (ev :: values) (k :: ks) (mCons mv m) := by
  obtain ⟨trs, p, w⟩ := hr
  refine ⟨(tC (kV k), tD X.K mv) :: trs, pps_cons hk hv p, fun σ H Q ⟨F, μ, G, S, ρ, ds, S', r, re, e, l, a⟩ => ?_⟩
  obtain ⟨⟨d1, S1⟩, e1, e⟩ := bindS e
  obtain ⟨⟨d2, S2⟩, e2, e⟩ := bindS e
  cases e
  show tD X.K mv σ H fun y H2 => tPairs trs σ H2 fun ps H3 => Q ((kV k, y) :: ps) H3
  refine ⟨F, μ, G, S, ρ, d1, S1, r, re, e1, fun μ1 G1 H1 p1 x1 q1 v1 r1 => w _ _ _ ⟨F, μ1, G1, S1, ρ, d2, S2, q1, re.mono p1 x1, e2, by simpa using l, fun μ2 G2 H2 p2 x2 q2 vs r2 => ?_⟩⟩
  exact a μ2 G2 H2 (p1.trans p2) (x1.trans x2) q2 (v1 :: vs) (.cons (r1.mono p2 x2) r2)
/-- a dict that nobody changes -/
def mDic (ks : List Key) (m : MA) : ME := fun ρ S => (m ρ S).bind fun p => if p.1.length = ks.length then some (.dct ks p.1, p.2) else none
theorem putK_new {kvs : List (Key × V)} {k : Key} {v : V} (h : k ∉ kvs.map (·.1)) : putK kvs k v = kvs ++ [(k, v)] := by
  unfold putK
  rw [if_neg]
  rw [Bool.not_eq_true, List.any_eq_false]
  intro p hp
  have : p.1 ≠ k := fun e => h (List.mem_map.mpr ⟨p, hp, e⟩)
  simpa using this
theorem merge_new : ∀ {more kvs : List (Key × V)}, ((kvs ++ more).map (·.1)).Nodup → mergeK kvs more = kvs ++ more
  | [], kvs, _ => by
    rw [List.append_nil]
    rfl
  | p :: r, kvs, h => by
    show mergeK (putK kvs p.1 p.2) r = _
    have hp : p.1 ∉ kvs.map (·.1) := by
      intro hm
      rw [List.map_append, List.nodup_append] at h
      exact h.2.2 p.1 hm p.1 (by simp) rfl
    rw [putK_new hp, merge_new (by rw [List.append_assoc]; exact h), List.append_assoc]
    rfl
theorem d_dic0 : PE X (.Dict [] [] pos) (tD X.K (mC (.dct [] []))) := pe_dnewK.weak fun σ H Q ⟨F, μ, G, S, ρ, d, S', r, re, e, a⟩ => by
  cases e
  intro p hp
  exact tD_new a r hp (.dct (ks := []) (xs := []) upd_same .nil rfl)
theorem d_dic (h : PPd X pos keys values ks m) (hall : keys.all (·.isSome) = true) (hl : keys.length = values.length) (h0 : keys ≠ []) (h15 : keys.length ≤ 15) (hk : ks.length = keys.length) (hn : ks.Nodup) :
    PE X (.Dict keys values pos) (tD X.K (mDic ks m)) := by
  obtain ⟨trs, p, w⟩ := h
  refine (pe_disp p hall hl h0 h15).weak fun σ H Q ⟨F, μ, G, S, ρ, d, S', r, re, e, a⟩ => ?_
  obtain ⟨⟨ds, S1⟩, e1, e⟩ := bindS e
  obtain ⟨l, e⟩ := ifs e
  cases e
  simp only at l
  intro p hp
  have hF : F p = none := r.frm.back hp
  have hM : p ∉ μ := fun z => r.trk p z hp
  refine w _ _ _ ⟨upd F p (.dK []), μ, G, S, ρ, ds, S1, r.frame (r.sub.back hp) hM hF, re, e1, l, fun μ1 G1 H1 p1 x1 q1 vs r1 => ?_⟩
  have hv : ks.length = vs.length := by rw [r1.len]; exact l.symm
  refine ⟨q1.frm p _ upd_same, ks.zip vs, rfl, by rw [List.length_zip]; omega, ?_⟩
  have hm : mergeK [] (ks.zip vs) = ks.zip vs := by
    have : ((ks.zip vs).map (·.1)) = ks := by rw [List.map_fst_zip (by omega)]
    have := merge_new (kvs := []) (more := ks.zip vs) (by rw [List.nil_append, this]; exact hn)
    rw [List.nil_append] at this
    exact this
  rw [hm]
  have q2 := (q1.reframe (o' := .dK (ks.zip vs)) hF).thaw hF
  have hG : G1 p = none := (q1.frd p _ upd_same).1
  exact a μ1 _ _ p1 (x1.trans (Ex.new hG)) q2 _ (.dct upd_same (r1.mono (Pf.refl _) (Ex.new hG)) hv)
theorem key_str {x : Str} {j : Nat} : PE X (.Constant (.str x) j pos) (tC (kV (.inr x))) := pe_str
end
section
variable {X : Cx} {pos apos : Pos} {o e : Expr} {m n : ME}
/-! ### methods of a list that changes -/
def cellAt (d : D) (S : Sto) : Option (Nat × List D) := match d with
  | .loc i => match S[i]? with
    | some (some c) => some (i, c)
    | _ => none
  | _ => none
theorem cellAt_is {d : D} {S : Sto} {i : Nat} {c : List D} (h : cellAt d S = some (i, c)) : d = .loc i ∧ S[i]? = some (some c) := by
  unfold cellAt at h
  split at h
  · split at h
    · rename_i hc
      cases h
      exact ⟨rfl, hc⟩
    · cases h
  · cases h
/-- x.append(y) -/
def mApp (m n : ME) : ME := fun ρ S => (m ρ S).bind fun p => (cellAt p.1 p.2).bind fun _ => (n ρ p.2).bind fun q => (cellAt p.1 q.2).bind fun c => if c.2.length < 1000000 then some (.non, q.2.set c.1 (some (c.2 ++ [q.1]))) else none
theorem Rel.cellV {F : Hp} {K : PySem.W.Frag} {μ : List Addr} {S : Sto} {H G : Hp} {v : V} {d : D} {i : Nat} {c : List D} (r : Rel K F μ S H G) (q : Rp K μ G v d) (h : cellAt d S = some (i, c)) : ∃ a vs, v = .ref a ∧ μ[i]? = some a ∧ H a = some (.lst vs) ∧ RpA K μ G vs c := by
  obtain ⟨rfl, hc⟩ := cellAt_is h
  cases q with
  | loc hm =>
    obtain ⟨b, ws, h1, h2, h3, h4⟩ := r.cell _ c hc
    rw [hm] at h1
    cases h1
    exact ⟨_, ws, rfl, hm, h2, h3⟩
theorem d_append (h : PE X o (tD X.K m)) (h2 : PE X e (tD X.K n)) (hbase : attributeBase o "append" X.env (eval o X.env) = eval o X.env := by rfl)
    (hfew : ((backTo pos (starEach [e] X.env)).all (fun x => !x.1) && (backToKw pos (keywordEach [] X.env)).all (fun x => x.1.isSome)
      && decide (([e] : List Expr).length + ([] : List Keyword).length + (if ([] : List Keyword).isEmpty then 0 else 1) < 30)) = true := by rfl)
    (hline : (apos.endLine == pos.line) = true := by rfl) (hs : starEach [e] X.env = (false, eval e X.env) :: starEach [] X.env := by rfl) (hplain : (backTo pos (starEach [] X.env)).any (·.1) = false := by rfl) :
    PE X (.Call (.Attribute o "append" apos) [e] [] pos) (tD X.K (mApp m n)) :=
  (pe_bm PySem.F.plainAttrs_list PySem.F.slot_list_append PySem.F.type_list_append mt_append h (a_cons h2 a_nil hs) hbase hfew hline hs hplain).weak fun σ H Q ⟨F, μ, G, S, ρ, d, S', r, re, ev, k⟩ => by
    obtain ⟨⟨d1, S1⟩, e1, ev⟩ := bindS ev
    obtain ⟨⟨i0, c0⟩, e2, ev⟩ := bindS ev
    obtain ⟨⟨d2, S2⟩, e3, ev⟩ := bindS ev
    obtain ⟨⟨i, c⟩, e4, ev⟩ := bindS ev
    obtain ⟨hl, ev⟩ := ifs ev
    cases ev
    simp only at e2 e3 e4 hl
    refine ⟨F, μ, G, S, ρ, d1, S1, r, re, e1, fun μ1 G1 H1 p1 x1 q1 v1 r1 => ?_⟩
    obtain ⟨a0, vs0, rfl, _, g2, _⟩ := q1.cellV r1 e2
    refine ⟨.inl ⟨rfl, vs0, SqL.of g2⟩, F, μ1, G1, S1, ρ, [d2], S2, q1, re.mono p1 x1, (by simp [mCons, mNil, e3]), fun μ2 G2 H2 p2 x2 q2 us r2 => ?_⟩
    cases r2 with
    | cons ru rr =>
      cases rr
      obtain ⟨a, vs, hv, hm, g3, g4⟩ := q2.cellV (r1.mono p2 x2) e4
      cases hv
      obtain ⟨_, hc⟩ := cellAt_is e4
      refine ⟨_, vs, _, rfl, rfl, g3, by rw [g4.len]; exact sz6' hl, ?_⟩
      exact k μ2 G2 _ (p1.trans p2) (x1.trans x2) (q2.write hc hm (g4.app (.cons ru .nil))) _ .non
theorem RpA.dropLast {K : PySem.W.Frag} {μ : List Addr} {G : Hp} : ∀ {vs : List V} {ds : List D}, RpA K μ G vs ds → RpA K μ G vs.dropLast ds.dropLast
  | _, _, .nil => .nil
  | _, _, .cons _ .nil => .nil
  | _, _, .cons r (.cons r2 t) => .cons r (RpA.dropLast (.cons r2 t))
/-- x.pop() -/
def mPop (m : ME) : ME := fun ρ S => (m ρ S).bind fun p => (cellAt p.1 p.2).bind fun c => (c.2[c.2.length - 1]?).map fun d => (d, p.2.set c.1 (some c.2.dropLast))
theorem d_pop (h : PE X o (tD X.K m)) (hbase : attributeBase o "pop" X.env (eval o X.env) = eval o X.env := by rfl) (hline : (apos.endLine == pos.line) = true := by rfl) : PE X (.Call (.Attribute o "pop" apos) [] [] pos) (tD X.K (mPop m)) :=
  (pe_bm0 PySem.F.plainAttrs_list PySem.F.slot_list_pop PySem.F.type_list_pop mt_pop h hbase hline).weak fun σ H Q ⟨F, μ, G, S, ρ, d, S', r, re, ev, k⟩ => by
    obtain ⟨⟨d1, S1⟩, e1, ev⟩ := bindS ev
    obtain ⟨⟨i, c⟩, e2, ev⟩ := bindS ev
    obtain ⟨d2, e3, ev⟩ := map_some ev
    cases ev
    simp only at e2 e3
    refine ⟨F, μ, G, S, ρ, d1, S1, r, re, e1, fun μ1 G1 H1 p1 x1 q1 v1 r1 => ?_⟩
    obtain ⟨a, vs, rfl, hm, g3, g4⟩ := q1.cellV r1 e2
    obtain ⟨_, hc⟩ := cellAt_is e2
    obtain ⟨y, hy, ry⟩ := g4.get e3
    refine ⟨.inl ⟨rfl, vs, SqL.of g3⟩, _, vs, y, rfl, rfl, g3, by rw [g4.len]; exact hy, ?_⟩
    exact k μ1 G1 _ p1 x1 (q1.write hc hm g4.dropLast) _ ry
end
end DL
/-! DLi -/
/-! DL: the end of a law. -/
namespace DL
open PySem PySem.Spec PyProof.Rows L2

/-- the law's call, from its def as a function of data that says True -/
theorem law_G {P : Program} {w : World} {K : PySem.W.Frag} {mg mb : Str → Option Value} {k : Nat} {fa a : Addr} {fd : FuncData} {x : Str} {m : MF} {s1 : Shared} {vs : List Value} {ns : List Int}
    (kin : K.In s1.heap) (hns : s1.heap.Ns mainGlobals mg) (hbn : s1.heap.Ns builtinsNs mb) (hbb : ∀ y : Str, y ≠ "__name__" → mb y = bootBuiltins y) (lim : s1.heap.NoLimit) (gn : s1.gens = #[])
    (obj : s1.heap.get? a = some { cls := .type "list", data := .seq vs.toArray }) (iv : IntsAre vs ns) (small : ns.length ≤ sizeLine) (room : Room k callerA)
    (FF : ∀ base : Heap, K.In base → base.Ns mainGlobals mg → FnG P w K mg base k fa fd [x] m) (bind1 : ∀ (s : Shared) (u : Value), BindsTo s fd ⟨[u], []⟩ [(x, u)])
    (yes : ∃ S', m [D.rol (ns.map D.int)] [] = some (.bl true, S')) :
    codeAny (model P w) callerA (.call (.ref fa) ⟨[.ref a], []⟩) (fun r s' => r = .ok (.ret (.bool true)) ∧ OldK s1.heap s'.heap ∧ s'.os = s1.os ∧ AllBare s'.gens) s1 := by
  have main : ∀ H : Hp, (∀ b u, H b = some u → b = a ∧ K.lookup a = none ∧ u = .frz { cls := .type "list", data := .seq vs.toArray } (.lst (ns.map V.int))) → HOk P w H s1.heap → SqL K H a (ns.map V.int) →
      codeAny (model P w) callerA (.call (.ref fa) ⟨[.ref a], []⟩) (fun r s' => r = .ok (.ret (.bool true)) ∧ OldK s1.heap s'.heap ∧ s'.os = s1.os ∧ AllBare s'.gens) s1 := by
    intro H onlyA held seen
    have names : ∀ {b : Addr} {mm : Str → Option Value}, s1.heap.Ns b mm → (hidT s1.heap H).Ns b mm := by
      rintro b mm ⟨o, es, ep, e, d, rest⟩
      refine ⟨o, es, ep, hidT_get e ?_, d, rest⟩
      cases q : H b with
      | none => rfl
      | some u =>
        obtain ⟨z, _⟩ := onlyA b u q
        rw [z, obj] at e
        cases e
        cases d
    have inB : K.In (hidT s1.heap H) := by
      intro b o e
      refine hidT_get (kin b o e) ?_
      cases q : H b with
      | none => rfl
      | some u =>
        obtain ⟨z, n, _⟩ := onlyA b u q
        rw [z, n] at e
        cases e
    have md : Mod K mg (hidT s1.heap H) := ⟨inB, names hns, ⟨mb, names hbn, hbb⟩, let ⟨mc, z1, z2⟩ := lim; ⟨mc, names z1, z2⟩⟩
    have env : Env0 P w K mg (hidT s1.heap H) callerA [] s1 H := ⟨rfl, md, fun _ _ e => of_hidT e, Nat.le_of_eq (hidT_size _ _), trivial, (fun _ z => (List.not_mem_nil z).elim), held, .of_eq gn⟩
    obtain ⟨S', yes⟩ := yes
    have none0 : ∀ {i : Nat} {y : Addr}, ([] : List Addr)[i]? = some y → False := fun h => by simp at h
    have rel : Rel K (fun _ => none) [] [] H H := ⟨Ex.refl _, rfl, fun i c e => (by simp at e), (fun _ _ _ e _ => (none0 e).elim), (fun _ z => (List.not_mem_nil z).elim), (fun _ _ e => by cases e), (fun _ _ e => by cases e)⟩
    have sp : spD K [x] m [.ref a] H fun v _ => v = .bl true := ⟨_, [], H, [], _, _, S', rel, .cons (.rol seen (RpA.ints ns)) .nil, rfl, yes, fun μ' G' H' _ _ _ v r => by cases r; rfl⟩
    apply codeAny_mono ((FF _ inB (names hns)).run callerA [] s1 H ⟨[.ref a], []⟩ [.ref a] [.ref a] _ room rfl env (bind1 s1 (.ref a)) (.cons rfl .nil) sp)
    rintro r s' ⟨u, rfl, v, H', os, bare, un, held', ru, hv⟩
    subst hv
    cases ru
    refine ⟨rfl, OldK.of_keep fun b o e => ?_, os, bare⟩
    cases q : H b with
    | none => exact un.keep b o e q (fun z => List.not_mem_nil z) fun z => List.not_mem_nil z
    | some u =>
      obtain ⟨_, _, rfl⟩ := onlyA b u q
      obtain ⟨g1, _⟩ := held b _ q
      obtain ⟨g2, _⟩ := held' b _ (un.frzs b _ _ q)
      rw [e] at g1
      cases g1
      exact g2
  have rv := vals_ints iv
  cases q : K.lookup a with
  | some o =>
    have e := kin a o q
    rw [obj] at e
    cases e
    refine main (fun _ => none) (fun b u z => by cases z) (fun b u z => by cases z) (.inr ⟨_, vs.toArray, _, q, rfl, rfl, rfl, ?_, by simpa using rv⟩)
    rw [List.size_toArray, iv.length]
    exact small
  | none =>
    refine main (fun b => if b = a then some (.frz { cls := .type "list", data := .seq vs.toArray } (.lst (ns.map V.int))) else none) (fun b u z => ?_) (fun b u z => ?_) (.inl (.inr ⟨_, if_pos rfl⟩))
    · have z := ifs z
      exact ⟨z.1, q, z.2.symm⟩
    · obtain ⟨z1, z2⟩ := ifs z
      subst z1
      subst z2
      exact ⟨obj, by rw [List.length_map]; exact small, vs, _, rv, obj⟩
theorem walkG {l : PySem.W.OpenLaw} {n k : Nat} {q : Program} {loose : List Str} {XP : (Str → Option Value) → Heap → Prop} {YP : World → Heap → Prop} {d : DefRec} {K : Params → PySem.W.Frag} {m : MF} {x : Str}
    (hn : l.most = some n) (hn2 : n ≤ sizeLine) (hdf : d.params.defaults = []) (room : Room k callerA) (hY : ∀ (w : World) (h : Heap), YP w h → (K w.params).In h)
    (FF : ∀ (w : World) (mg : Str → Option Value) (fa : Addr) (h : Heap), (K w.params).In h → h.Ns mainGlobals mg → mg d.name = some (.ref fa) →
      ∃ fd : FuncData, (∀ (s : Shared) (u : Value), BindsTo s fd ⟨[u], []⟩ [(x, u)]) ∧ ∀ base : Heap, (K w.params).In base → base.Ns mainGlobals mg → FnG l.prog w (K w.params) mg base k fa fd [x] m)
    (yes : ∀ ns : List Int, ns.length ≤ n → ∃ S', m [D.rol (ns.map D.int)] [] = some (.bl true, S')) : PySem.W.WalkO q loose XP YP l.row.toRowW d [] (fun f vs => PySem.call f vs) := by
  refine Att.attach_call hn hdf fun w _ s1 mg mb fa o pm cd doc a vs ns G Y _ _ _ hmg obj iv hlen hg => ?_
  obtain ⟨fd, bind1, h⟩ := FF w mg fa _ (hY w _ Y) G.T.g hmg
  exact law_G (hY w _ Y) G.T.g G.T.b G.T.builtins G.T.nolimit hg obj iv (Nat.le_trans hlen hn2) room h bind1 (yes ns hlen)
end DL
/-! SHa -/
/-! SH: evaluating the functions over data; the draws that the laws share. -/
namespace SH
open PySem PySem.Spec PyProof.Rows L2 DL

/-! ### rules of evaluation -/
section
variable {ρ ρ' ρ1 : Env'} {S S1 S2 S3 : Sto} {a b c d : D} {m m1 m2 m3 : ME} {t u : MT} {x y z : Bool} {r : Option (D × Sto)} {f g : MOp}
theorem e_var {i : Nat} (h : ρ[i]? = some (some d)) : mVar i ρ S = some (d, S) := by
  unfold mVar
  rw [h]
theorem e_c : mC d ρ S = some (d, S) := rfl
theorem e_bin (h1 : m1 ρ S = some (a, S1)) (h2 : m2 ρ S1 = some (b, S2)) (h : f a b S2 = r) : mBin f m1 m2 ρ S = r := by
  unfold mBin
  rw [h1, Option.bind_some]
  show (m2 ρ S1).bind _ = r
  rw [h2]
  exact h
variable {ds es : List D} {n k : MA} {q : MF}
theorem e_nil : mNil ρ S = some ([], S) := rfl
theorem e_cons (h1 : m ρ S = some (a, S1)) (h2 : n ρ S1 = some (ds, S2)) : mCons m n ρ S = some (a :: ds, S2) := by
  unfold mCons
  rw [h1, Option.bind_some]
  show (n ρ S1).bind _ = _
  rw [h2]
  rfl
theorem e_call (h1 : n ρ S = some (ds, S1)) (h : q ds S1 = r) : mCall q n ρ S = r := by
  unfold mCall
  rw [h1]
  exact h
theorem e_tup (h1 : n ρ S = some (ds, S1)) (h : ds.length ≤ 1000000) : mTup n ρ S = some (.tup ds, S1) := by
  unfold mTup
  rw [h1, Option.bind_some, if_pos h]
theorem e_lst (h1 : n ρ S = some (ds, S1)) (h : ds.length ≤ 1000000) : mLst n ρ S = some (.lst ds, S1) := by
  unfold mLst
  rw [h1, Option.bind_some, if_pos h]
theorem e_cel (h1 : n ρ S = some (ds, S1)) (h : ds.length ≤ 1000000) : mCel n ρ S = some (.loc S1.length, S1 ++ [some ds]) := by
  unfold mCel
  rw [h1, Option.bind_some, if_pos h]
theorem e_neg {i : Int} (h1 : m ρ S = some (.int i, S1)) : mNeg m ρ S = some (.int (-i), S1) := by
  unfold mNeg
  rw [h1]
  rfl
theorem e_np : mNoPart ρ S = some (none, S) := rfl
theorem e_pt {i : Int} (h1 : m ρ S = some (.int i, S1)) : mPart m ρ S = some (some i, S1) := by
  unfold mPart
  rw [h1]
  rfl
theorem e_sl {l h : MO} {i j : Option Int} (h1 : m ρ S = some (a, S1)) (h2 : l ρ S1 = some (i, S2)) (h3 : h ρ S2 = some (j, S3)) (h4 : fSl a i j = some d) : mSl m l h ρ S = some (d, S3) := by
  unfold mSl
  rw [h1, Option.bind_some]
  show (l ρ S1).bind _ = _
  rw [h2, Option.bind_some]
  show (h ρ S2).bind _ = _
  rw [h3, Option.bind_some]
  show (fSl a i j).map _ = _
  rw [h4]
  rfl
theorem e_st0 {w : Str → D} {s : Str} (h1 : m ρ S = some (.str s, S1)) : mSt0 w m ρ S = some (w s, S1) := by
  unfold mSt0
  rw [h1]
  rfl
theorem e_isi {T w : String} (h1 : m ρ S = some (a, S1)) (h2 : tyOf a S1 = some w) : mIsi T m ρ S = some (.bl (isA T w), S1) := by
  unfold mIsi
  rw [h1, Option.bind_some]
  show (tyOf a S1).map _ = _
  rw [h2]
  rfl
/-! tests -/
theorem e_bl (h1 : m ρ S = some (.bl x, S1)) : mBl m ρ S = some (x, S1) := by
  unfold mBl
  rw [h1]
  rfl
theorem e_tr (h1 : m ρ S = some (a, S1)) (h2 : trD a S1 = some x) : mTr m ρ S = some (x, S1) := by
  unfold mTr
  rw [h1, Option.bind_some]
  show (trD a S1).map _ = _
  rw [h2]
  rfl
theorem e_notT (h1 : t ρ S = some (x, S1)) : mNotT t ρ S = some (!x, S1) := by
  unfold mNotT
  rw [h1]
  rfl
theorem e_andF (h1 : t ρ S = some (false, S1)) : mAndT t u ρ S = some (false, S1) := by
  unfold mAndT
  rw [h1]
  rfl
theorem e_andT (h1 : t ρ S = some (true, S1)) {o : Option (Bool × Sto)} (h2 : u ρ S1 = o) : mAndT t u ρ S = o := by
  unfold mAndT
  rw [h1]
  exact h2
theorem e_orT (h1 : t ρ S = some (true, S1)) : mOrT t u ρ S = some (true, S1) := by
  unfold mOrT
  rw [h1]
  rfl
theorem e_orF (h1 : t ρ S = some (false, S1)) {o : Option (Bool × Sto)} (h2 : u ρ S1 = o) : mOrT t u ρ S = o := by
  unfold mOrT
  rw [h1]
  exact h2
theorem e_andVF (h1 : m1 ρ S = some (.bl false, S1)) : mAndV m1 m2 ρ S = some (.bl false, S1) := by
  unfold mAndV
  rw [h1]
  rfl
theorem e_andVT (h1 : m1 ρ S = some (.bl true, S1)) (h2 : m2 ρ S1 = r) : mAndV m1 m2 ρ S = r := by
  unfold mAndV
  rw [h1]
  exact h2
theorem e_orVT (h1 : m1 ρ S = some (.bl true, S1)) : mOrV m1 m2 ρ S = some (.bl true, S1) := by
  unfold mOrV
  rw [h1]
  rfl
theorem e_orVF (h1 : m1 ρ S = some (.bl false, S1)) (h2 : m2 ρ S1 = r) : mOrV m1 m2 ρ S = r := by
  unfold mOrV
  rw [h1]
  exact h2
theorem e_notV (h1 : m ρ S = some (.bl x, S1)) : mNotV m ρ S = some (.bl (!x), S1) := by
  unfold mNotV
  rw [h1]
  rfl
theorem e_ifT (h1 : t ρ S = some (true, S1)) (h2 : m1 ρ S1 = r) : mIf t m1 m2 ρ S = r := by
  unfold mIf
  rw [h1]
  exact h2
theorem e_ifF (h1 : t ρ S = some (false, S1)) (h2 : m2 ρ S1 = r) : mIf t m1 m2 ρ S = r := by
  unfold mIf
  rw [h1]
  exact h2
/-! statements -/
variable {p p2 : MS} {o : Option (Fl × Sto)}
theorem e_seq (h1 : p ρ S = some (.nx ρ1, S1)) (h2 : p2 ρ1 S1 = o) : sSeq p p2 ρ S = o := by
  unfold sSeq
  rw [h1]
  exact h2
theorem e_seqR (h1 : p ρ S = some (.rt d, S1)) : sSeq p p2 ρ S = some (.rt d, S1) := by
  unfold sSeq
  rw [h1]
theorem e_ret (h1 : m ρ S = some (d, S1)) : sRet m ρ S = some (.rt d, S1) := by
  unfold sRet
  rw [h1]
  rfl
theorem e_next : sNext ρ S = some (.nx ρ, S) := rfl
theorem e_set {i : Nat} (h1 : m ρ S = some (d, S1)) : sSet i m ρ S = some (.nx (ρ.set i (some d)), S1) := by
  unfold sSet
  rw [h1]
  rfl
theorem e_drop (h1 : m ρ S = some (d, S1)) : sDrop m ρ S = some (.nx ρ, S1) := by
  unfold sDrop
  rw [h1]
  rfl
theorem e_iT (h1 : t ρ S = some (true, S1)) (h2 : p ρ S1 = o) : sIf t p p2 ρ S = o := by
  unfold sIf
  rw [h1]
  exact h2
theorem e_iF (h1 : t ρ S = some (false, S1)) (h2 : p2 ρ S1 = o) : sIf t p p2 ρ S = o := by
  unfold sIf
  rw [h1]
  exact h2
theorem e_asg {g : MG} (h1 : m ρ S = some (d, S1)) (h2 : g d ρ = some ρ1) : sAsg g m ρ S = some (.nx ρ1, S1) := by
  unfold sAsg
  rw [h1, Option.bind_some]
  show (g d ρ).map _ = _
  rw [h2]
  rfl
theorem e_par {i j : Nat} (h1 : m1 ρ S = some (a, S1)) (h2 : m2 ρ S1 = some (b, S2)) : sPar i j m1 m2 ρ S = some (.nx ((ρ.set i (some a)).set j (some b)), S2) := by
  unfold sPar
  rw [h1, Option.bind_some]
  show (m2 ρ S1).map _ = _
  rw [h2]
  rfl
theorem e_stix (h1 : m3 ρ S = some (a, S1)) (h2 : m1 ρ S1 = some (b, S2)) (h3 : m2 ρ S2 = some (c, S3)) {S4 : Sto} (h4 : stIx b c a S3 = some S4) : sStIx m1 m2 m3 ρ S = some (.nx ρ, S4) := by
  unfold sStIx
  rw [h1, Option.bind_some]
  show (m1 ρ S1).bind _ = _
  rw [h2, Option.bind_some]
  show (m2 ρ S2).bind _ = _
  rw [h3, Option.bind_some]
  show (stIx b c a S3).map _ = _
  rw [h4]
  rfl
theorem e_fn {N : Nat} (h : p (ds.map some ++ List.replicate (N - ds.length) none) S = some (.rt d, S1)) : mFn N p ds S = some (d, S1) := by
  unfold mFn
  rw [h]
end
theorem fMul_r {i j : Int} {S : Sto} (h : -(2 ^ 64) < j ∧ j < 2 ^ 64) : fMul (.int i) (.int j) S = some (.int (i * j), S) := if_pos (.inr h)
theorem fMul_l {i j : Int} {S : Sto} (h : -(2 ^ 64) < i ∧ i < 2 ^ 64) : fMul (.int i) (.int j) S = some (.int (i * j), S) := if_pos (.inl h)
theorem fMod_p {i j : Int} {S : Sto} (h : 0 < j) : fMod (.int i) (.int j) S = some (.int (i % j), S) := if_pos h
theorem fDiv_p {i j : Int} {S : Sto} (h : 0 < j ∧ j < 1073741824) : fDiv (.int i) (.int j) S = some (.int (i / j), S) := if_pos h
/-- evaluate; what an operation is, at the end -/
local macro_rules | `(tactic| walk_at "op") => `(tactic| first | rfl | exact fMul_r (by decide) | exact fMul_l (by decide) | exact fMod_p (by decide) | exact fDiv_p (by decide) | assumption | exact fMod_p (by omega) | exact fDiv_p (by omega) | exact fMul_l (by omega) | exact fMul_r (by omega))
local macro_rules | `(tactic| walk_at "ev") => `(tactic| first
  | exact e_c | exact e_var rfl | exact e_nil | exact e_np | assumption
  | (apply e_bin; walk_at "ev"; walk_at "ev"; walk_at "op")
  | (apply e_cons; walk_at "ev"; walk_at "ev")
  | (apply e_call; walk_at "ev"; walk_at "op")
  | (apply e_tup; walk_at "ev"; exact Nat.le_of_ble_eq_true rfl)
  | (apply e_lst; walk_at "ev"; exact Nat.le_of_ble_eq_true rfl)
  | (apply e_neg; walk_at "ev")
  | (apply e_pt; walk_at "ev")
  | (apply e_sl; walk_at "ev"; walk_at "ev"; walk_at "ev"; rfl)
  | (apply e_bl; walk_at "ev")
  | (apply e_notT; walk_at "ev")
  | (apply e_isi; walk_at "ev"; rfl)
  | (apply e_set; walk_at "ev")
  | (apply e_ret; walk_at "ev")
  | (apply e_par; walk_at "ev"; walk_at "ev")
  | (apply e_stix; walk_at "ev"; walk_at "ev"; walk_at "ev"; rfl)
  | exact e_next
  | (apply e_iT; assumption; walk_at "ev")
  | (apply e_iF; assumption; walk_at "ev")
  | (apply e_seq; walk_at "ev"; walk_at "ev")
  | (apply e_seqR; walk_at "ev")
  | (apply e_fn; walk_at "ev"))

def b_take1 : MS := (sIf (mBl (mBin fEq (mBin fIx (mVar 0) (mC (.int 0))) (mC (.int 0)))) (sSeq (sSet 2 (mC (.int 0)))
    (sSeq (sIf (mBl (mBin (fCmp fun i j => decide (i < j)) (mBin fIx (mVar 0) (mC (.int 2))) (mCall fLen (mCons (mBin fIx (mVar 0) (mC (.int 3))) mNil)))) (sSet 2 (mBin fIx (mBin fIx (mVar 0) (mC (.int 3))) (mBin fIx (mVar 0) (mC (.int 2))))) sNext)
    (sSeq (sAugIx (mVar 0) (mC (.int 2)) (mC (.int 1)))
    (sSeq (sIf (mBl (mBin (fCmp fun i j => decide (j ≤ i)) (mVar 2) (mC (.int 1000000000000000000)))) (sStIx (mVar 0) (mC (.int 0)) (mVar 2)) sNext)
    (sStIx (mVar 0) (mC (.int 1)) (mBin fMod (mBin fAdd (mBin fAdd (mBin fMul (mBin fIx (mVar 0) (mC (.int 1))) (mC (.int 48271))) (mBin fMod (mVar 2) (mC (.int 2147483647)))) (mBin fMul (mC (.int 7919)) (mBin fIx (mVar 0) (mC (.int 2))))) (mC (.int 2147483647)))))))) sNext)
def b_take : MS :=
    (sSeq b_take1
    (sSeq (sIf (mBl (mBin (fCmp fun i j => decide (j < i)) (mBin fIx (mVar 0) (mC (.int 0))) (mC (.int 0)))) (sSeq (sSet 3 (mBin fMod (mBin fIx (mVar 0) (mC (.int 0))) (mVar 1)))
    (sSeq (sStIx (mVar 0) (mC (.int 0)) (mBin fDiv (mBin fIx (mVar 0) (mC (.int 0))) (mVar 1)))
    (sRet (mVar 3)))) sNext)
    (sSeq (sSet 4 (mBin fMod (mBin fMul (mBin fAdd (mBin fIx (mVar 0) (mC (.int 1))) (mC (.int 1))) (mC (.int 39373))) (mC (.int 1000000007))))
    (sSeq (sSet 5 (mBin fMod (mBin fMul (mBin fMod (mBin fMul (mVar 4) (mVar 4)) (mC (.int 998244353))) (mC (.int 30011))) (mC (.int 998244353))))
    (sSeq (sIf (mBl (mBin (fCmp fun i j => decide (j < i)) (mVar 1) (mC (.int 1000000)))) (sRet (mBin fMod (mBin fAdd (mBin fMul (mVar 5) (mC (.int 1000000007))) (mVar 4)) (mVar 1))) sNext)
    (sRet (mBin fMod (mBin fDiv (mVar 5) (mC (.int 7))) (mVar 1))))))))
def m_take : MF := mFn 6 b_take

/-- what the bag holds -/
structure Bag where
  held : Int
  seed : Int
  place : Int
  cells : List Int
def Bag.d (B : Bag) : List D := [.int B.held, .int B.seed, .int B.place, .lst (B.cells.map D.int)]
structure Bag.ok (B : Bag) : Prop where
  h0 : 0 ≤ B.held
  p0 : 0 ≤ B.place
  c0 : ∀ c ∈ B.cells, 0 ≤ c
theorem fIx_cells {cs : List Int} {p : Int} {S : Sto} (h0 : 0 ≤ p) (h1 : p < (cs.length : Int)) : ∃ c, cs[p.toNat]? = some c ∧ fIx (.lst (cs.map D.int)) (.int p) S = some (.int c, S) := by
  have hl : p.toNat < cs.length := by omega
  refine ⟨cs[p.toNat], List.getElem?_eq_getElem hl, ?_⟩
  have e : atI (cs.map D.int) p = some (.int cs[p.toNat]) := by
    have := atI_nat (xs := cs.map D.int) (j := p.toNat) (v := .int cs[p.toNat]) (by rw [List.getElem?_map, List.getElem?_eq_getElem hl]; rfl)
    rw [Int.toNat_of_nonneg h0] at this
    exact this
  show (atI (cs.map D.int) p).map _ = _
  rw [e]
  rfl
theorem take1 {T : Sto} {B : Bag} {many : Int} (ok : B.ok) : ∃ (o : Option D) (B' : Bag), b_take1 [some (.loc 0), some (.int many), none, none, none, none] (some B.d :: T) = some (.nx [some (.loc 0), some (.int many), o, none, none, none], some B'.d :: T) ∧ B'.ok := by
  obtain ⟨h, s, p, cs⟩ := B
  obtain ⟨h0, p0, c0⟩ := ok
  simp only at h0 p0 c0
  by_cases hz : h = 0
  · have et : mBl (mBin fEq (mBin fIx (mVar 0) (mC (.int 0))) (mC (.int 0))) [some (.loc 0), some (.int many), none, none, none, none] (some (Bag.d ⟨h, s, p, cs⟩) :: T) = some (h == 0, some (Bag.d ⟨h, s, p, cs⟩) :: T) := by walk_at "ev"
    rw [show (h == 0) = true by rw [hz]; rfl] at et
    -- the cell
    have key : ∃ c : Int, 0 ≤ c ∧ sIf (mBl (mBin (fCmp fun i j => decide (i < j)) (mBin fIx (mVar 0) (mC (.int 2))) (mCall fLen (mCons (mBin fIx (mVar 0) (mC (.int 3))) mNil)))) (sSet 2 (mBin fIx (mBin fIx (mVar 0) (mC (.int 3))) (mBin fIx (mVar 0) (mC (.int 2))))) sNext [some (.loc 0), some (.int many), some (.int 0), none, none, none] (some (Bag.d ⟨h, s, p, cs⟩) :: T)
        = some (.nx [some (.loc 0), some (.int many), some (.int c), none, none, none], some (Bag.d ⟨h, s, p, cs⟩) :: T) := by
      have e2 : mBl (mBin (fCmp fun i j => decide (i < j)) (mBin fIx (mVar 0) (mC (.int 2))) (mCall fLen (mCons (mBin fIx (mVar 0) (mC (.int 3))) mNil))) [some (.loc 0), some (.int many), some (.int 0), none, none, none] (some (Bag.d ⟨h, s, p, cs⟩) :: T) = some (decide (p < ((cs.map D.int).length : Int)), some (Bag.d ⟨h, s, p, cs⟩) :: T) := by walk_at "ev"
      rw [List.length_map] at e2
      by_cases hp : p < (cs.length : Int)
      · rw [decide_eq_true hp] at e2
        obtain ⟨c, hc, ec⟩ := fIx_cells (S := some (Bag.d ⟨h, s, p, cs⟩) :: T) p0 hp
        exact ⟨c, c0 c (List.mem_of_getElem? hc), e_iT e2 (by walk_at "ev")⟩
      · rw [decide_eq_false hp] at e2
        exact ⟨0, by decide, e_iF e2 e_next⟩
    obtain ⟨c, hc, ec⟩ := key
    have e3 : sAugIx (mVar 0) (mC (.int 2)) (mC (.int 1)) [some (.loc 0), some (.int many), some (.int c), none, none, none] (some (Bag.d ⟨h, s, p, cs⟩) :: T) = some (.nx [some (.loc 0), some (.int many), some (.int c), none, none, none], some (Bag.d ⟨h, s, p + 1, cs⟩) :: T) := rfl
    have e4 : ∃ h', 0 ≤ h' ∧ sIf (mBl (mBin (fCmp fun i j => decide (j ≤ i)) (mVar 2) (mC (.int 1000000000000000000)))) (sStIx (mVar 0) (mC (.int 0)) (mVar 2)) sNext [some (.loc 0), some (.int many), some (.int c), none, none, none] (some (Bag.d ⟨h, s, p + 1, cs⟩) :: T) = some (.nx [some (.loc 0), some (.int many), some (.int c), none, none, none], some (Bag.d ⟨h', s, p + 1, cs⟩) :: T) := by
      have e5 : mBl (mBin (fCmp fun i j => decide (j ≤ i)) (mVar 2) (mC (.int 1000000000000000000))) [some (.loc 0), some (.int many), some (.int c), none, none, none] (some (Bag.d ⟨h, s, p + 1, cs⟩) :: T) = some (decide (1000000000000000000 ≤ c), some (Bag.d ⟨h, s, p + 1, cs⟩) :: T) := by walk_at "ev"
      by_cases hcc : 1000000000000000000 ≤ c
      · rw [decide_eq_true hcc] at e5
        exact ⟨c, hc, e_iT e5 (by walk_at "ev")⟩
      · rw [decide_eq_false hcc] at e5
        exact ⟨h, h0, e_iF e5 e_next⟩
    obtain ⟨h', hh', e4⟩ := e4
    refine ⟨some (.int c), ⟨h', (s * 48271 + c % 2147483647 + 7919 * (p + 1)) % 2147483647, p + 1, cs⟩, ?_, ⟨hh', by show 0 ≤ p + 1; omega, c0⟩⟩
    refine e_iT et (e_seq (e_set e_c) (e_seq ec (e_seq e3 (e_seq e4 ?_))))
    walk_at "ev"
  · have et : mBl (mBin fEq (mBin fIx (mVar 0) (mC (.int 0))) (mC (.int 0))) [some (.loc 0), some (.int many), none, none, none, none] (some (Bag.d ⟨h, s, p, cs⟩) :: T) = some (h == 0, some (Bag.d ⟨h, s, p, cs⟩) :: T) := by walk_at "ev"
    rw [show (h == 0) = false from beq_eq_false_iff_ne.mpr hz] at et
    exact ⟨none, ⟨h, s, p, cs⟩, e_iF et e_next, ⟨h0, p0, c0⟩⟩
/-- a draw -/
theorem take {T : Sto} {B : Bag} {many : Int} (ok : B.ok) (h1 : 1 ≤ many) (h2 : many ≤ 1000000) : ∃ (v : Int) (B' : Bag), m_take [.loc 0, .int many] (some B.d :: T) = some (.int v, some B'.d :: T) ∧ 0 ≤ v ∧ v < many ∧ B'.ok := by
  obtain ⟨o, B1, e1, ok1⟩ := take1 (T := T) (many := many) ok
  obtain ⟨h, s, p, cs⟩ := B1
  obtain ⟨h0, p0, c0⟩ := ok1
  simp only at h0 p0 c0
  have et : mBl (mBin (fCmp fun i j => decide (j < i)) (mBin fIx (mVar 0) (mC (.int 0))) (mC (.int 0))) [some (.loc 0), some (.int many), o, none, none, none] (some (Bag.d ⟨h, s, p, cs⟩) :: T) = some (decide (0 < h), some (Bag.d ⟨h, s, p, cs⟩) :: T) := by walk_at "ev"
  by_cases hh : 0 < h
  · rw [decide_eq_true hh] at et
    refine ⟨h % many, ⟨h / many, s, p, cs⟩, e_fn (e_seq e1 (e_seqR (e_iT et ?_))), Int.emod_nonneg _ (by omega), Int.emod_lt_of_pos _ (by omega), ⟨Int.ediv_nonneg h0 (by omega), p0, c0⟩⟩
    walk_at "ev"
  · rw [decide_eq_false hh] at et
    have em : ∀ σ5 σ6 : D, mBl (mBin (fCmp fun i j => decide (j < i)) (mVar 1) (mC (.int 1000000))) [some (.loc 0), some (.int many), o, none, some σ5, some σ6] (some (Bag.d ⟨h, s, p, cs⟩) :: T) = some (false, some (Bag.d ⟨h, s, p, cs⟩) :: T) := fun _ _ => by
      have z : decide ((1000000 : Int) < many) = false := decide_eq_false (by omega)
      rw [← z]
      rfl
    have b1 : 0 ≤ (s + 1) * 39373 % 1000000007 := Int.emod_nonneg _ (by decide)
    have b2 : (s + 1) * 39373 % 1000000007 < 1000000007 := Int.emod_lt_of_pos _ (by decide)
    refine ⟨((s + 1) * 39373 % 1000000007) * ((s + 1) * 39373 % 1000000007) % 998244353 * 30011 % 998244353 / 7 % many, ⟨h, s, p, cs⟩, e_fn (e_seq e1 (e_seq (e_iF et e_next) ?_)), Int.emod_nonneg _ (by omega), Int.emod_lt_of_pos _ (by omega), ⟨h0, p0, c0⟩⟩
    apply e_seq
    · walk_at "ev"
    · generalize (s + 1) * 39373 % 1000000007 = q at b1 b2
      apply e_seq
      · walk_at "ev"
      · apply e_seq
        · exact e_iF (em _ _) e_next
        · walk_at "ev"
end SH
/-! SHb -/
/-! SH: comprehensions, texts of letters, the names that the laws draw. -/
namespace SH
open PySem PySem.Spec PyProof.Rows L2 DL

/-! ### comprehensions -/
theorem lc_pure {g : MG} {m : ME} {ρ : Env'} {S : Sto} {f : D → D} : ∀ {ds : List D}, (∀ d ∈ ds, ∃ ρ1, g d ρ = some ρ1 ∧ m ρ1 S = some (f d, S)) → lcL g mYes m ρ ds S = some (ds.map f, S)
  | [], _ => rfl
  | d :: ds, h => by
    obtain ⟨ρ1, h1, h2⟩ := h d (List.mem_cons_self ..)
    unfold lcL
    rw [h1, Option.bind_some]
    show (m ρ1 S).bind _ = _
    rw [h2, Option.bind_some]
    show (lcL g mYes m ρ ds S).map _ = _
    rw [lc_pure fun d hd => h d (List.mem_cons_of_mem _ hd)]
    rfl
theorem lc_inv {g : MG} {m : ME} {ρ : Env'} (P : Sto → Prop) (R : D → Prop) : ∀ {ds : List D} {S : Sto}, (∀ d ∈ ds, ∀ S, P S → ∃ ρ1 r S', g d ρ = some ρ1 ∧ m ρ1 S = some (r, S') ∧ P S' ∧ R r) → P S →
    ∃ rs S', lcL g mYes m ρ ds S = some (rs, S') ∧ P S' ∧ rs.length = ds.length ∧ ∀ r ∈ rs, R r
  | [], S, _, hp => ⟨[], S, rfl, hp, rfl, fun _ z => (List.not_mem_nil z).elim⟩
  | d :: ds, S, h, hp => by
    obtain ⟨ρ1, r, S1, h1, h2, h3, h4⟩ := h d (List.mem_cons_self ..) S hp
    obtain ⟨rs, S2, g1, g2, g3, g4⟩ := lc_inv P R (fun d hd => h d (List.mem_cons_of_mem _ hd)) h3
    refine ⟨r :: rs, S2, ?_, g2, by rw [List.length_cons, List.length_cons, g3], fun x hx => ?_⟩
    · unfold lcL
      rw [h1, Option.bind_some]
      show (m ρ1 S).bind _ = _
      rw [h2, Option.bind_some]
      show (lcL g mYes m ρ ds S1).map _ = _
      rw [g1]
      rfl
    · rcases List.mem_cons.mp hx with rfl | hx
      · exact h4
      · exact g4 x hx
theorem e_lc {s : MA} {g : MG} {t : MT} {m : ME} {vs : List Nat} {ρ : Env'} {S S1 S2 : Sto} {ds rs : List D} (h1 : s ρ S = some (ds, S1)) (h : ds.length ≤ 1000000) (h2 : lcL g t m (wipeD ρ vs) ds S1 = some (rs, S2)) : mLc s g t m vs ρ S = some (.lst rs, S2) := by
  unfold mLc
  rw [h1, Option.bind_some, if_pos h, h2]
  rfl
theorem e_sq {m : ME} {ρ : Env'} {S S1 : Sto} {d : D} {ds : List D} (h1 : m ρ S = some (d, S1)) (h2 : itOf d = some ds) : mSq m ρ S = some (ds, S1) := by
  unfold mSq
  rw [h1, Option.bind_some, h2]
  rfl
theorem e_rg {m : ME} {ρ : Env'} {S S1 : Sto} {j : Int} (h1 : m ρ S = some (.int j, S1)) (h : -(2 ^ 62) ≤ j ∧ j < 2 ^ 62) : mRg1 m ρ S = some (DL.upTo j.toNat, S1) := by
  unfold mRg1
  rw [h1, Option.bind_some]
  exact if_pos h
theorem upTo_len (n : Nat) : (DL.upTo n).length = n := by
  unfold DL.upTo
  rw [List.length_map, List.length_range]
theorem upTo_mem {n : Nat} {d : D} (h : d ∈ DL.upTo n) : ∃ i : Nat, i < n ∧ d = .int (i : Nat) := by
  unfold DL.upTo at h
  obtain ⟨i, h1, h2⟩ := List.mem_map.mp h
  exact ⟨i, List.mem_range.mp h1, h2.symm⟩
/-! ### for -/
theorem for_inv {g : MG} {b : MS} (P : Env' → Sto → Prop) : ∀ {ds : List D} {ρ : Env'} {S : Sto}, (∀ d ∈ ds, ∀ ρ S, P ρ S → ∃ ρ1 ρ2 S2, g d ρ = some ρ1 ∧ b ρ1 S = some (.nx ρ2, S2) ∧ P ρ2 S2) → P ρ S → ∃ ρ' S', forL g b ds ρ S = some (.nx ρ', S') ∧ P ρ' S'
  | [], ρ, S, _, hp => ⟨ρ, S, rfl, hp⟩
  | d :: ds, ρ, S, h, hp => by
    obtain ⟨ρ1, ρ2, S2, h1, h2, h3⟩ := h d (List.mem_cons_self ..) ρ S hp
    obtain ⟨ρ', S', g1, g2⟩ := for_inv P (fun d hd => h d (List.mem_cons_of_mem _ hd)) h3
    refine ⟨ρ', S', ?_, g2⟩
    unfold forL
    rw [h1, Option.bind_some]
    show (match b ρ1 S with | some (.nx ρ2, S2) => _ | some (.ct ρ2, S2) => _ | some (.bk ρ2, S2) => _ | some (.rt d, S2) => _ | none => _) = _
    rw [h2]
    exact g1
theorem e_for {m : MA} {g : MG} {b : MS} {ρ : Env'} {S S1 : Sto} {ds : List D} {o : Option (Fl × Sto)} (h1 : m ρ S = some (ds, S1)) (h2 : forL g b ds ρ S1 = o) : sFor m g b ρ S = o := by
  unfold sFor
  rw [h1]
  exact h2

/-! ### the bag -/
def Dr (T S : Sto) : Prop := ∃ B : Bag, B.ok ∧ S = some B.d :: T
theorem draw {T S : Sto} {many : Int} (h : Dr T S) (h1 : 1 ≤ many) (h2 : many ≤ 1000000) : ∃ (v : Int) (S' : Sto), m_take [.loc 0, .int many] S = some (.int v, S') ∧ 0 ≤ v ∧ v < many ∧ Dr T S' := by
  obtain ⟨B, ok, rfl⟩ := h
  obtain ⟨v, B', e, q1, q2, ok'⟩ := take (T := T) ok h1 h2
  exact ⟨v, _, e, q1, q2, B', ok', rfl⟩
/-- a draw as an argument of its own -/
theorem drawE {T S : Sto} {many : Int} {ρ : Env'} {m1 m2 : ME} (h : Dr T S) (h1 : 1 ≤ many) (h2 : many ≤ 1000000) (e1 : m1 ρ S = some (.loc 0, S)) (e2 : m2 ρ S = some (.int many, S)) :
    ∃ (v : Int) (S' : Sto), mCall m_take (mCons m1 (mCons m2 mNil)) ρ S = some (.int v, S') ∧ 0 ≤ v ∧ v < many ∧ Dr T S' := by
  obtain ⟨v, S', e, q⟩ := draw h h1 h2
  exact ⟨v, S', e_call (e_cons e1 (e_cons e2 e_nil)) e, q⟩
def b_bag : MS :=
    (sRet (mCel (mCons (mC (.int 0)) (mCons (mC (.int 1234567891)) (mCons (mC (.int 0)) (mCons (mLc (mSq (mSl (mVar 0) mNoPart (mPart (mC (.int 63))))) (gN 1) mYes (mCall fAbs (mCons (mVar 1) mNil)) [1]) mNil))))))
def m_bag : MF := mFn 2 b_bag
theorem cut_mem {xs : List D} {lo hi : Option Int} {d : D} (h : d ∈ DL.cutD xs lo hi) : d ∈ xs := List.mem_of_mem_drop (List.mem_of_mem_take h)
theorem cut_len (xs : List D) (lo hi : Option Int) : (DL.cutD xs lo hi).length ≤ xs.length := by
  unfold DL.cutD
  rw [List.length_take, List.length_drop]
  omega
def absD : D → D
  | .int i => .int (if i < 0 then -i else i)
  | d => d
theorem bag (ns : List Int) (h : ns.length ≤ 63) : ∃ S, m_bag [.rol (ns.map D.int)] [] = some (.loc 0, S) ∧ Dr [] S := by
  have hc : ∀ d ∈ DL.cutD (ns.map D.int) none (some 63), ∃ i : Int, d = .int i := fun d hd => by
    obtain ⟨i, _, e⟩ := List.mem_map.mp (cut_mem hd)
    exact ⟨i, e.symm⟩
  have hl := cut_len (ns.map D.int) none (some 63)
  rw [List.length_map] at hl
  generalize hx : DL.cutD (ns.map D.int) none (some 63) = xs at hc hl
  have e1 : mLc (mSq (mSl (mVar 0) mNoPart (mPart (mC (.int 63))))) (gN 1) mYes (mCall fAbs (mCons (mVar 1) mNil)) [1] [some (.rol (ns.map D.int)), none] [] = some (.lst (xs.map absD), []) := by
    refine e_lc (ds := xs) (e_sq (e_sl (e_var rfl) e_np (e_pt e_c) (by show some (D.lst (DL.cutD (ns.map D.int) none (some 63))) = _; rw [hx])) rfl) (by omega) (lc_pure fun d hd => ?_)
    obtain ⟨i, rfl⟩ := hc d hd
    exact ⟨_, rfl, rfl⟩
  have hm : ∃ cs : List Int, xs.map absD = cs.map D.int ∧ ∀ c ∈ cs, 0 ≤ c := by
    clear e1 hl hx
    induction xs with
    | nil => exact ⟨[], rfl, fun _ z => (List.not_mem_nil z).elim⟩
    | cons d ds ih =>
      obtain ⟨i, rfl⟩ := hc d (List.mem_cons_self ..)
      obtain ⟨cs, g1, g2⟩ := ih fun d hd => hc d (List.mem_cons_of_mem _ hd)
      refine ⟨(if i < 0 then -i else i) :: cs, by rw [List.map_cons, List.map_cons, g1]; rfl, fun c hcc => ?_⟩
      rcases List.mem_cons.mp hcc with rfl | hcc
      · split <;> omega
      · exact g2 c hcc
  obtain ⟨cs, g1, g2⟩ := hm
  rw [g1] at e1
  refine ⟨_, e_fn (e_ret (e_cel (e_cons e_c (e_cons e_c (e_cons e_c (e_cons e1 e_nil)))) (Nat.le_of_ble_eq_true rfl))), ⟨0, 1234567891, 0, cs⟩, ⟨Int.le_refl 0, Int.le_refl 0, g2⟩, rfl⟩

/-! ### texts of letters -/
def LetB (c : Nat) : Bool := decide (97 ≤ c) && decide (c ≤ 122)
def Lets (s : Str) : Prop := ∀ c ∈ s.cps.toList, LetB c = true
theorem lets_app {x y : Str} (h1 : Lets x) (h2 : Lets y) : Lets (x ++ y) := fun c hc => by
  have e : (x ++ y).cps.toList = x.cps.toList ++ y.cps.toList := by
    show (x.cps ++ y.cps).toList = _
    simp
  rw [e] at hc
  exact (List.mem_append.mp hc).elim (h1 c) (h2 c)
theorem len_app (x y : Str) : (x ++ y).length = x.length + y.length := by
  show (x.cps ++ y.cps).size = _
  rw [Array.size_append]
  rfl
theorem lets_cut {x : Str} (h : Lets x) (lo hi : Option Int) : Lets (cutS x lo hi) := fun c hc => by
  have e : c ∈ (x.cps.toList.drop (HT.sIx x.length 0 lo)).take (HT.sIx x.length x.length hi - HT.sIx x.length 0 lo) := by simpa [cutS] using hc
  exact h c (List.mem_of_mem_drop (List.mem_of_mem_take e))
theorem cutS_len (x : Str) (lo hi : Option Int) : (cutS x lo hi).length = min (HT.sIx x.length x.length hi - HT.sIx x.length 0 lo) (x.length - HT.sIx x.length 0 lo) := by
  unfold cutS Str.length
  simp
theorem cut_at (x : Str) {k : Int} (h0 : 0 ≤ k) (h1 : k ≤ (x.length : Int)) : (cutS x none (some k)).length + (cutS x (some k) none).length = x.length := by
  obtain ⟨n, rfl⟩ := Int.eq_ofNat_of_zero_le h0
  rw [cutS_len, cutS_len]
  have e1 : HT.sIx x.length 0 none = 0 := rfl
  have e2 : HT.sIx x.length x.length none = x.length := rfl
  have e3 : ∀ d, HT.sIx x.length d (some ((n : Nat) : Int)) = min n x.length := fun d => HT.sIx_nat _ _ _
  rw [e1, e2, e3, e3]
  have : n ≤ x.length := by
    have := h1
    omega
  omega
/-- a name -/
def Nm (s : Str) : Prop := 1 ≤ s.length ∧ s.length ≤ 8 ∧ Lets s
def NmD (d : D) : Prop := ∃ s, d = .str s ∧ Nm s
def abc : Str := "abcdefghijklmnopqrstuvwxyz"
theorem abc_list : abc.cps.toList = (List.range 26).map (97 + ·) := by decide +kernel
theorem abc_len : abc.length = 26 := by decide +kernel
/-- a letter -/
theorem letter {v : Int} (h0 : 0 ≤ v) (h1 : v < 26) (S : Sto) : ∃ s : Str, s.length = 1 ∧ Lets s ∧ fIx (.str abc) (.int v) S = some (.str s, S) := by
  obtain ⟨n, rfl⟩ := Int.eq_ofNat_of_zero_le h0
  have hn : n < 26 := by have := h1; omega
  refine ⟨⟨#[97 + n]⟩, rfl, fun c hc => ?_, ?_⟩
  · have e : c = 97 + n := by simpa using hc
    subst e
    unfold LetB
    rw [decide_eq_true (by omega), decide_eq_true (by omega)]
    rfl
  · have e : atI abc.cps.toList ((n : Nat) : Int) = some (97 + n) := atI_nat (by rw [abc_list, List.getElem?_map, List.getElem?_range hn]; rfl)
    show (if abc.length ≤ 1000000 then (atI abc.cps.toList (Int.ofNat n)).map fun c => (D.str ⟨#[c]⟩, S) else none) = _
    rw [if_pos (by rw [abc_len]; decide)]
    show (atI abc.cps.toList ((n : Nat) : Int)).map _ = _
    rw [e]
    rfl
/-- letters joined -/
theorem join_lets : ∀ {ys : List Str}, (∀ y ∈ ys, y.length = 1 ∧ Lets y) → (Str.join "" ys).length = ys.length ∧ Lets (Str.join "" ys)
  | [], _ => ⟨rfl, fun c hc => by cases hc⟩
  | [y], h => ⟨(h y (List.mem_cons_self ..)).1, (h y (List.mem_cons_self ..)).2⟩
  | y :: z :: r, h => by
    obtain ⟨h1, h2⟩ := join_lets (ys := z :: r) fun x hx => h x (List.mem_cons_of_mem _ hx)
    obtain ⟨g1, g2⟩ := h y (List.mem_cons_self ..)
    have e : Str.join "" (y :: z :: r) = y ++ ("" : Str) ++ Str.join "" (z :: r) := rfl
    rw [e]
    have e0 : (("" : Str)).length = 0 := by decide +kernel
    have e1 : Lets ("" : Str) := fun c hc => by
      have q : (("" : Str)).cps.toList = [] := by decide +kernel
      rw [q] at hc
      cases hc
    refine ⟨?_, lets_app (lets_app g2 e1) h2⟩
    rw [len_app, len_app, e0, g1, h1]
    simp only [List.length_cons]
    omega
theorem strsOf_map : ∀ ys : List Str, strsOf (ys.map D.str) = some ys
  | [] => rfl
  | y :: ys => by
    show (strsOf (ys.map D.str)).map _ = _
    rw [strsOf_map ys]
    rfl
theorem strs_of {P : Str → Prop} : ∀ {ds : List D}, (∀ d ∈ ds, ∃ s, d = .str s ∧ P s) → ∃ ys : List Str, ds = ys.map D.str ∧ ∀ y ∈ ys, P y
  | [], _ => ⟨[], rfl, fun _ z => (List.not_mem_nil z).elim⟩
  | d :: ds, h => by
    obtain ⟨s, rfl, hs⟩ := h d (List.mem_cons_self ..)
    obtain ⟨ys, rfl, hy⟩ := strs_of fun d hd => h d (List.mem_cons_of_mem _ hd)
    refine ⟨s :: ys, rfl, fun y hy' => ?_⟩
    rcases List.mem_cons.mp hy' with rfl | hy'
    · exact hs
    · exact hy y hy'
theorem sum_ones : ∀ {ys : List Str}, (∀ y ∈ ys, y.length = 1) → (ys.map (·.length)).sum = ys.length
  | [], _ => rfl
  | y :: ys, h => by
    rw [List.map_cons, List.sum_cons, sum_ones fun y hy => h y (List.mem_cons_of_mem _ hy), h y (List.mem_cons_self ..), List.length_cons]
    omega
theorem fJoin_lets {ys : List Str} {S : Sto} (h : ∀ y ∈ ys, y.length = 1 ∧ Lets y) (hl : ys.length ≤ 1000) : fJoin (.str ("" : Str)) (.lst (List.map D.str ys)) S = some (.str (Str.join "" ys), S) := by
  show (strsOf (ys.map D.str)).bind _ = _
  rw [strsOf_map, Option.bind_some]
  have e0 : (("" : Str)).length = 0 := by decide +kernel
  rw [if_pos (by rw [sum_ones fun y hy => (h y hy).1, e0]; omega)]
  rw [show Txt.join ("" : Str) ys = Str.join "" ys from PySem.StrLaws.glued_eq_join _ _]
end SH
/-! SHc -/
/-! SH: the names that the laws draw. -/
namespace SH
open PySem PySem.Spec PyProof.Rows L2 DL
def m6 : MS := (sSet 6 (mBin fJoin (mC (.str "")) (mLc (mRg1 (mBin fAdd (mC (.int 1)) (mCall m_take (mCons (mVar 0) (mCons (mC (.int 7)) mNil))))) (gN 8) mYes (mBin fIx (mVar 2) (mCall m_take (mCons (mVar 0) (mCons (mC (.int 26)) mNil)))) [8])))
def b_names : MS :=
    (sSeq (sSet 2 (mC (.str "abcdefghijklmnopqrstuvwxyz")))
    (sSeq (sSet 3 (mC (.str "schema table view column index int text truth create drop path move rename of call param value none")))
    (sSeq (sSet 3 (mBin fSplit (mBin fAdd (mVar 3) (mC (.str " app old a ab b zz"))) (mC (.str " "))))
    (sSeq (sAsg (gT 2 (gCn (gN 4) (gCn (gN 5) gNl))) (mTup (mCons (mCall m_take (mCons (mVar 0) (mCons (mC (.int 4)) mNil))) (mCons (mCall m_take (mCons (mVar 0) (mCons (mC (.int 24)) mNil))) mNil))))
    (sSeq (sSet 6 (mBin fJoin (mC (.str "")) (mLc (mRg1 (mBin fAdd (mC (.int 1)) (mCall m_take (mCons (mVar 0) (mCons (mC (.int 7)) mNil))))) (gN 8) mYes (mBin fIx (mVar 2) (mCall m_take (mCons (mVar 0) (mCons (mC (.int 26)) mNil)))) [8])))
    (sSeq (sSet 7 (mCall m_take (mCons (mVar 0) (mCons (mBin fAdd (mCall fLen (mCons (mVar 6) mNil)) (mC (.int 1))) mNil))))
    (sSeq (sIf (mBl (mBin fEq (mVar 4) (mC (.int 0)))) (sRet (mSl (mBin fAdd (mSl (mVar 3) (mPart (mVar 5)) mNoPart) (mSl (mVar 3) mNoPart (mPart (mVar 5)))) mNoPart (mPart (mVar 1)))) sNext)
    (sSeq (sIf (mBl (mBin fEq (mVar 4) (mC (.int 1)))) (sRet (mLc (mRg1 (mVar 1)) (gN 8) mYes (mBin fIx (mVar 2) (mBin fMod (mBin fAdd (mVar 5) (mBin fMul (mC (.int 3)) (mVar 8))) (mC (.int 26)))) [8])) sNext)
    (sRet (mLc (mRg1 (mVar 1)) (gN 8) mYes (mBin fAdd (mBin fAdd (mSl (mVar 6) mNoPart (mPart (mVar 7))) (mBin fIx (mVar 2) (mBin fMod (mBin fAdd (mVar 5) (mBin fMul (mC (.int 3)) (mVar 8))) (mC (.int 26))))) (mSl (mVar 6) (mPart (mVar 7)) mNoPart)) [8]))))))))))
def m_names : MF := mFn 9 b_names
def wordsOf : List Str := Txt.split ("schema table view column index int text truth create drop path move rename of call param value none" ++ (" app old a ab b zz" : Str)) " "
theorem words_len : wordsOf.length = 24 := by decide +kernel
theorem words_nm : (wordsOf.all fun s => decide (1 ≤ s.length) && decide (s.length ≤ 8) && s.cps.toList.all LetB) = true := by decide +kernel
theorem words_ok {s : Str} (h : s ∈ wordsOf) : Nm s := by
  have q := List.all_eq_true.mp words_nm s h
  rw [Bool.and_eq_true, Bool.and_eq_true, decide_eq_true_eq, decide_eq_true_eq] at q
  exact ⟨q.1.1, q.1.2, fun c hc => List.all_eq_true.mp q.2 c hc⟩
theorem sixth {T S : Sto} {n : Int} {o : Option D} {w t : D} {W : List D} (h : Dr T S) : ∃ (s : Str) (S' : Sto), 1 ≤ s.length ∧ s.length ≤ 7 ∧ Lets s ∧ Dr T S' ∧
    m6 [some (.loc 0), some (.int n), some (.str abc), some (.lst W), some w, some t, none, none, none] S = some (.nx [some (.loc 0), some (.int n), some (.str abc), some (.lst W), some w, some t, some (.str s), none, none], S') := by
  obtain ⟨v, S1, e1, v0, v1, d1⟩ := drawE (m1 := mVar 0) (m2 := mC (.int 7)) (ρ := [some (.loc 0), some (.int n), some (.str abc), some (.lst W), some w, some t, none, none, none]) h (by decide) (by decide) (e_var rfl) e_c
  have er : mRg1 (mBin fAdd (mC (.int 1)) (mCall m_take (mCons (mVar 0) (mCons (mC (.int 7)) mNil)))) [some (.loc 0), some (.int n), some (.str abc), some (.lst W), some w, some t, none, none, none] S = some (DL.upTo (1 + v).toNat, S1) := e_rg (e_bin e_c e1 rfl) (by omega)
  obtain ⟨rs, S2, e2, d2, l2, p2⟩ := lc_inv (g := gN 8) (m := mBin fIx (mVar 2) (mCall m_take (mCons (mVar 0) (mCons (mC (.int 26)) mNil)))) (ρ := [some (.loc 0), some (.int n), some (.str abc), some (.lst W), some w, some t, none, none, none]) (Dr T) (fun d => ∃ s, d = .str s ∧ (s.length = 1 ∧ Lets s)) (ds := DL.upTo (1 + v).toNat) (fun d hd S hS => by
    obtain ⟨u, S', e3, u0, u1, d3⟩ := drawE (m1 := mVar 0) (m2 := mC (.int 26)) (ρ := [some (.loc 0), some (.int n), some (.str abc), some (.lst W), some w, some t, none, none, some d]) hS (by decide) (by decide) (e_var rfl) e_c
    obtain ⟨s, s1, s2, e4⟩ := letter u0 u1 S'
    exact ⟨_, _, S', rfl, e_bin (e_var rfl) e3 e4, d3, s, rfl, s1, s2⟩) d1
  obtain ⟨ys, rfl, py⟩ := strs_of p2
  rw [upTo_len, List.length_map] at l2
  obtain ⟨j1, j2⟩ := join_lets py
  refine ⟨Str.join "" ys, S2, by rw [j1]; omega, by rw [j1]; omega, j2, d2, ?_⟩
  exact e_set (e_bin e_c (e_lc (vs := [8]) er (by rw [upTo_len]; omega) e2) (fJoin_lets py (by omega)))
theorem cutD_from {xs : List D} (k : Nat) : DL.cutD xs (some (k : Int)) none = xs.drop k := by
  unfold DL.cutD
  rw [HT.sIx_nat, HT.sIx_none]
  by_cases h : k ≤ xs.length
  · rw [Nat.min_eq_left h, List.take_of_length_le (by rw [List.length_drop]; omega)]
  · rw [Nat.min_eq_right (by omega), List.drop_eq_nil_of_le (Nat.le_refl _), List.drop_eq_nil_of_le (by omega), List.take_nil]
theorem cutD_upto {xs : List D} (k : Nat) : DL.cutD xs none (some (k : Int)) = xs.take k := by
  unfold DL.cutD
  rw [HT.sIx_nat, HT.sIx_none, List.drop_zero, Nat.sub_zero]
  by_cases h : k ≤ xs.length
  · rw [Nat.min_eq_left h]
  · rw [Nat.min_eq_right (by omega), List.take_of_length_le (Nat.le_refl _), List.take_of_length_le (by omega)]
/-- the names: so many, each a name -/
theorem names {T S : Sto} {n : Nat} (h : Dr T S) (hn : n ≤ 24) : ∃ (xs : List D) (S' : Sto), m_names [.loc 0, .int n] S = some (.lst xs, S') ∧ Dr T S' ∧ xs.length = n ∧ ∀ d ∈ xs, NmD d := by
  -- the head
  obtain ⟨v4, S1, e1, v40, v41, d1⟩ := drawE (m1 := mVar 0) (m2 := mC (.int 4)) (ρ := [some (.loc 0), some (.int n), some (.str abc), some (.lst (wordsOf.map D.str)), none, none, none, none, none]) h (by decide) (by decide) (e_var rfl) e_c
  obtain ⟨v5, S2, e2, v50, v51, d2⟩ := drawE (m1 := mVar 0) (m2 := mC (.int 24)) (ρ := [some (.loc 0), some (.int n), some (.str abc), some (.lst (wordsOf.map D.str)), none, none, none, none, none]) d1 (by decide) (by decide) (e_var rfl) e_c
  obtain ⟨s, S3, s1, s7, sl, d3, e3⟩ := sixth (n := n) (o := none) (w := .int v4) (t := .int v5) (W := wordsOf.map D.str) d2
  have el : mBin fAdd (mCall fLen (mCons (mVar 6) mNil)) (mC (.int 1)) [some (.loc 0), some (.int n), some (.str abc), some (.lst (wordsOf.map D.str)), some (.int v4), some (.int v5), some (.str s), none, none] S3 = some (.int ((s.length : Int) + 1), S3) :=
    e_bin (e_call (e_cons (e_var rfl) e_nil) (show (if s.length ≤ 1000000 then some (D.int s.length, S3) else none) = _ from if_pos (by omega))) e_c rfl
  obtain ⟨v7, S4, e4, v70, v71, d4⟩ := drawE (m1 := mVar 0) (m2 := mBin fAdd (mCall fLen (mCons (mVar 6) mNil)) (mC (.int 1))) (ρ := [some (.loc 0), some (.int n), some (.str abc), some (.lst (wordsOf.map D.str)), some (.int v4), some (.int v5), some (.str s), none, none]) d3 (by omega) (by omega) (e_var rfl) el
  have hsplit : fSplit (.str ("schema table view column index int text truth create drop path move rename of call param value none" ++ (" app old a ab b zz" : Str))) (.str " ") S = some (.lst (wordsOf.map D.str), S) := by
    exact if_pos (e := none) (c := ((" " : Str).length == 0) = false ∧ (("schema table view column index int text truth create drop path move rename of call param value none" : Str) ++ (" app old a ab b zz" : Str)).length ≤ 100000) (by decide +kernel)
  have hadd : fAdd (.str "schema table view column index int text truth create drop path move rename of call param value none") (.str " app old a ab b zz") S = some (.str ("schema table view column index int text truth create drop path move rename of call param value none" ++ (" app old a ab b zz" : Str)), S) := by
    exact if_pos (e := none) (c := ("schema table view column index int text truth create drop path move rename of call param value none" : Str).length + (" app old a ab b zz" : Str).length ≤ 1000000) (by decide +kernel)
  have head : ∀ {p : MS} {o : Option (Fl × Sto)}, p [some (.loc 0), some (.int n), some (.str abc), some (.lst (wordsOf.map D.str)), some (.int v4), some (.int v5), some (.str s), some (.int v7), none] S4 = o →
      (sSeq (sSet 2 (mC (.str "abcdefghijklmnopqrstuvwxyz")))
    (sSeq (sSet 3 (mC (.str "schema table view column index int text truth create drop path move rename of call param value none")))
    (sSeq (sSet 3 (mBin fSplit (mBin fAdd (mVar 3) (mC (.str " app old a ab b zz"))) (mC (.str " "))))
    (sSeq (sAsg (gT 2 (gCn (gN 4) (gCn (gN 5) gNl))) (mTup (mCons (mCall m_take (mCons (mVar 0) (mCons (mC (.int 4)) mNil))) (mCons (mCall m_take (mCons (mVar 0) (mCons (mC (.int 24)) mNil))) mNil))))
    (sSeq m6
    (sSeq (sSet 7 (mCall m_take (mCons (mVar 0) (mCons (mBin fAdd (mCall fLen (mCons (mVar 6) mNil)) (mC (.int 1))) mNil)))) p)))))) [some (.loc 0), some (.int n), none, none, none, none, none, none, none] S = o := fun {p o} hp => by
    refine e_seq (e_set e_c) (e_seq (e_set e_c) (e_seq (e_set (e_bin (e_bin (e_var rfl) e_c hadd) e_c hsplit)) (e_seq (e_asg (e_tup (e_cons e1 (e_cons e2 e_nil)) (Nat.le_of_ble_eq_true rfl)) rfl) (e_seq e3 (e_seq (e_set e4) hp)))))
  have t0 : mBl (mBin fEq (mVar 4) (mC (.int 0))) [some (.loc 0), some (.int n), some (.str abc), some (.lst (wordsOf.map D.str)), some (.int v4), some (.int v5), some (.str s), some (.int v7), none] S4 = some (v4 == 0, S4) := rfl
  have t1 : mBl (mBin fEq (mVar 4) (mC (.int 1))) [some (.loc 0), some (.int n), some (.str abc), some (.lst (wordsOf.map D.str)), some (.int v4), some (.int v5), some (.str s), some (.int v7), none] S4 = some (v4 == 1, S4) := rfl
  have er : mRg1 (mVar 1) [some (.loc 0), some (.int n), some (.str abc), some (.lst (wordsOf.map D.str)), some (.int v4), some (.int v5), some (.str s), some (.int v7), none] S4 = some (DL.upTo n, S4) := e_rg (j := (n : Int)) (e_var rfl) (by omega)
  have lt : ∀ d ∈ DL.upTo n, ∃ c : Str, c.length = 1 ∧ Lets c ∧ mBin fIx (mVar 2) (mBin fMod (mBin fAdd (mVar 5) (mBin fMul (mC (.int 3)) (mVar 8))) (mC (.int 26))) [some (.loc 0), some (.int n), some (.str abc), some (.lst (wordsOf.map D.str)), some (.int v4), some (.int v5), some (.str s), some (.int v7), some d] S4 = some (.str c, S4) := fun d hd => by
    obtain ⟨i, _, rfl⟩ := upTo_mem hd
    obtain ⟨c, c1, c2, c3⟩ := letter (v := (v5 + 3 * (i : Int)) % 26) (Int.emod_nonneg _ (by decide)) (Int.emod_lt_of_pos _ (by decide)) S4
    exact ⟨c, c1, c2, e_bin (e_var rfl) (e_bin (e_bin (e_var rfl) (e_bin e_c (e_var rfl) (fMul_l (by decide))) rfl) e_c (fMod_p (by decide))) c3⟩
  by_cases h0 : v4 = 0
  · rw [show (v4 == 0) = true by rw [h0]; rfl] at t0
    obtain ⟨k, rfl⟩ := Int.eq_ofNat_of_zero_le v50
    have hk : k < 24 := by omega
    refine ⟨(((wordsOf.map D.str).drop k ++ (wordsOf.map D.str).take k).take n), S4, ?_, d4, ?_, fun d hd => ?_⟩
    · refine e_fn (head (e_seqR (e_iT t0 (e_ret (e_sl (a := .lst ((wordsOf.map D.str).drop k ++ (wordsOf.map D.str).take k)) (e_bin (e_sl (e_var rfl) (e_pt (e_var rfl)) e_np rfl) (e_sl (e_var rfl) e_np (e_pt (e_var rfl)) rfl) ?_) e_np (e_pt (e_var rfl)) ?_)))))
      · rw [cutD_from, cutD_upto]
        show (if _ then some _ else none) = _
        exact if_pos (by rw [List.length_drop, List.length_take, List.length_map, words_len]; omega)
      · show some (D.lst (DL.cutD _ none (some (n : Int)))) = _
        rw [cutD_upto]
    · rw [List.length_take, List.length_append, List.length_drop, List.length_take, List.length_map, words_len]
      omega
    · have hd := List.mem_of_mem_take hd
      have : d ∈ wordsOf.map D.str := (List.mem_append.mp hd).elim List.mem_of_mem_drop List.mem_of_mem_take
      obtain ⟨w, hw, rfl⟩ := List.mem_map.mp this
      exact ⟨w, rfl, words_ok hw⟩
  · rw [show (v4 == 0) = false from beq_eq_false_iff_ne.mpr h0] at t0
    by_cases h1 : v4 = 1
    · rw [show (v4 == 1) = true by rw [h1]; rfl] at t1
      obtain ⟨rs, S5, e5, d5, l5, p5⟩ := lc_inv (g := gN 8) (m := mBin fIx (mVar 2) (mBin fMod (mBin fAdd (mVar 5) (mBin fMul (mC (.int 3)) (mVar 8))) (mC (.int 26)))) (ρ := [some (.loc 0), some (.int n), some (.str abc), some (.lst (wordsOf.map D.str)), some (.int v4), some (.int v5), some (.str s), some (.int v7), none]) (fun S => S = S4) NmD (ds := DL.upTo n) (fun d hd S hS => by
        subst hS
        obtain ⟨c, c1, c2, c3⟩ := lt d hd
        exact ⟨_, _, _, rfl, c3, rfl, c, rfl, by omega, by omega, c2⟩) rfl
      subst d5
      rw [upTo_len] at l5
      exact ⟨rs, _, e_fn (head (e_seq (e_iF t0 e_next) (e_seqR (e_iT t1 (e_ret (e_lc (vs := [8]) er (by rw [upTo_len]; omega) e5)))))), d4, l5, p5⟩
    · rw [show (v4 == 1) = false from beq_eq_false_iff_ne.mpr h1] at t1
      obtain ⟨rs, S5, e5, d5, l5, p5⟩ := lc_inv (g := gN 8) (m := mBin fAdd (mBin fAdd (mSl (mVar 6) mNoPart (mPart (mVar 7))) (mBin fIx (mVar 2) (mBin fMod (mBin fAdd (mVar 5) (mBin fMul (mC (.int 3)) (mVar 8))) (mC (.int 26))))) (mSl (mVar 6) (mPart (mVar 7)) mNoPart)) (ρ := [some (.loc 0), some (.int n), some (.str abc), some (.lst (wordsOf.map D.str)), some (.int v4), some (.int v5), some (.str s), some (.int v7), none]) (fun S => S = S4) NmD (ds := DL.upTo n) (fun d hd S hS => by
        subst hS
        obtain ⟨c, c1, c2, c3⟩ := lt d hd
        have hc := cut_at s v70 (by omega)
        have l1 := len_app (cutS s none (some v7)) c
        have l2 := len_app (cutS s none (some v7) ++ c) (cutS s (some v7) none)
        refine ⟨_, _, _, rfl, e_bin (e_bin (e_sl (e_var rfl) e_np (e_pt (e_var rfl)) (if_pos (by omega))) c3 (if_pos (by omega))) (e_sl (e_var rfl) (e_pt (e_var rfl)) e_np (if_pos (by omega))) (if_pos (by omega)), rfl, _, rfl, ?_, ?_, lets_app (lets_app (lets_cut sl _ _) c2) (lets_cut sl _ _)⟩
        · omega
        · omega) rfl
      subst d5
      rw [upTo_len] at l5
      exact ⟨rs, _, e_fn (head (e_seq (e_iF t0 e_next) (e_seq (e_iF t1 e_next) (e_ret (e_lc (vs := [8]) er (by rw [upTo_len]; omega) e5))))), d4, l5, p5⟩
end SH
/-! SHd -/
/-! SH: small data is equal to itself and is shown. -/
namespace SH
open PySem PySem.Spec PyProof.Rows L2 DL
mutual
/-- plain data with short leaves -/
def fine : D → Bool
  | .non => true
  | .bl _ => true
  | .int i => decide (i.natAbs < 1000000000000)
  | .str s => PyData.strOk s && decide (s.length ≤ 1000)
  | .tup xs => fines xs
  | .lst xs => fines xs
  | .rol xs => fines xs
  | .dct _ _ => false
  | .loc _ => false
def fines : List D → Bool
  | [] => true
  | x :: xs => fine x && fines xs
end
mutual
def siz : D → Nat
  | .tup xs => sizs xs + 1
  | .lst xs => sizs xs + 1
  | .rol xs => sizs xs + 1
  | _ => 1
def sizs : List D → Nat
  | [] => 0
  | x :: xs => siz x + sizs xs
end
theorem log_small {i : Int} (h : i.natAbs < 1000000000000) : i.natAbs.log2 < 1920 := by
  by_cases h0 : i.natAbs = 0
  · rw [h0]; decide
  · exact (Nat.log2_lt h0).mpr (Nat.lt_of_lt_of_le h (by decide +kernel))
structure Facts (d : D) : Prop where
  flat : d.flat = true
  nts : d.py.intsShort 13 = true
  shows : d.py.showable = true
  dep : d.py.depth ≤ siz d
  wt : d.py.weight + 1 ≤ 1002 * siz d
structure FactsA (ds : List D) : Prop where
  flat : D.flats ds = true
  nts : PyData.intsShortAll 13 (D.pys ds) = true
  shows : PyData.showableAll (D.pys ds) = true
  dep : PyData.depthAll (D.pys ds) ≤ sizs ds
  wt : PyData.weightAll (D.pys ds) ≤ 1002 * sizs ds
theorem siz_pos : ∀ d : D, 1 ≤ siz d := fun d => by cases d <;> simp [siz]
theorem log_lt {i : Int} (h : i.natAbs < 1000000000000) : i.natAbs.log2 + 1 ≤ 1001 := by
  by_cases h0 : i.natAbs = 0
  · rw [h0]; decide
  · have : i.natAbs.log2 < 1000 := (Nat.log2_lt h0).mpr (Nat.lt_of_lt_of_le h (by decide +kernel))
    omega
mutual
theorem facts : ∀ d : D, fine d = true → Facts d
  | .non, _ => ⟨rfl, rfl, rfl, by simp [D.py, PyData.depth], by simp [D.py, PyData.weight, siz]⟩
  | .bl _, _ => ⟨rfl, rfl, rfl, by simp [D.py, PyData.depth], by simp [D.py, PyData.weight, siz]⟩
  | .int i, h => by
    have h' : i.natAbs < 1000000000000 := by simpa only [fine, decide_eq_true_eq] using h
    refine ⟨rfl, ?_, ?_, by simp [D.py, PyData.depth], ?_⟩
    · simp only [D.py, PyData.intsShort, decide_eq_true_eq]
      exact PyData.shown_int_le h'
    · simp only [D.py, PyData.showable, decide_eq_true_eq]
      exact log_small h'
    · simp only [D.py, PyData.weight, siz]
      have := log_lt h'
      split <;> omega
  | .str s, h => by
    have h' : PyData.strOk s = true ∧ s.length ≤ 1000 := by simpa only [fine, Bool.and_eq_true, decide_eq_true_eq] using h
    refine ⟨h'.1, rfl, rfl, by simp [D.py, PyData.depth], ?_⟩
    simp only [D.py, PyData.weight, siz]
    have : s.cps.size = s.length := rfl
    omega
  | .tup xs, h => by
    have f := factsA xs (by simpa only [fine] using h)
    refine ⟨by simp only [D.flat]; exact f.flat, by simp only [D.py, PyData.intsShort]; exact f.nts, by simp only [D.py, PyData.showable]; exact f.shows, ?_, ?_⟩
    · simp only [D.py, PyData.depth, siz]
      have := f.dep
      omega
    · simp only [D.py, PyData.weight, siz]
      have := f.wt
      omega
  | .lst xs, h => by
    have f := factsA xs (by simpa only [fine] using h)
    refine ⟨by simp only [D.flat]; exact f.flat, by simp only [D.py, PyData.intsShort]; exact f.nts, by simp only [D.py, PyData.showable]; exact f.shows, ?_, ?_⟩
    · simp only [D.py, PyData.depth, siz]
      have := f.dep
      omega
    · simp only [D.py, PyData.weight, siz]
      have := f.wt
      omega
  | .rol xs, h => by
    have f := factsA xs (by simpa only [fine] using h)
    refine ⟨by simp only [D.flat]; exact f.flat, by simp only [D.py, PyData.intsShort]; exact f.nts, by simp only [D.py, PyData.showable]; exact f.shows, ?_, ?_⟩
    · simp only [D.py, PyData.depth, siz]
      have := f.dep
      omega
    · simp only [D.py, PyData.weight, siz]
      have := f.wt
      omega
  | .dct _ _, h => by simp [fine] at h
  | .loc _, h => by simp [fine] at h
theorem factsA : ∀ ds : List D, fines ds = true → FactsA ds
  | [], _ => ⟨rfl, rfl, rfl, by simp [D.pys, PyData.depthAll], by simp [D.pys, PyData.weightAll]⟩
  | d :: ds, h => by
    have h' : fine d = true ∧ fines ds = true := by simpa only [fines, Bool.and_eq_true] using h
    have f := facts d h'.1
    have g := factsA ds h'.2
    refine ⟨by simp only [D.flats, f.flat, g.flat, Bool.and_true], by simp only [D.pys, PyData.intsShortAll, f.nts, g.nts, Bool.and_true], by simp only [D.pys, PyData.showableAll, f.shows, g.shows, Bool.and_true], ?_, ?_⟩
    · simp only [D.pys, PyData.depthAll, sizs]
      have := f.dep
      have := g.dep
      omega
    · simp only [D.pys, PyData.weightAll, sizs]
      have := f.wt
      have := g.wt
      omega
end
theorem shb_of {d : D} (h : fine d = true) (n : siz d ≤ 60) : d.shb = true := by
  have f := facts d h
  have l := PyData.shown_le 13 (by decide) d.py (PyData.leavesShort_of_canLay0 13 d.py (D.lay f.flat) f.nts)
  have w := f.wt
  have e := f.dep
  unfold D.shb
  rw [Bool.and_eq_true, Bool.and_eq_true, Bool.and_eq_true]
  refine ⟨⟨⟨full_of f.flat, f.shows⟩, decide_eq_true (by omega)⟩, decide_eq_true (by omega)⟩
theorem cmpb_of {d : D} (h : fine d = true) (n : siz d ≤ 60) : d.cmpb = true := by
  have f := facts d h
  have e := f.dep
  unfold D.cmpb
  rw [Bool.and_eq_true]
  exact ⟨f.flat, decide_eq_true (by omega)⟩
theorem eqv_self {d : D} (h : d.flat = true) : PyData.eqv d.py d.py = true := PySem.SeqAt.eqv_refl _ (D.lay h)
theorem eqS_self : ∀ {d : D}, d.scal = true → eqS d d = true := fun {d} h => by
  cases d <;> first | rfl | (cases h; done) | (simp [eqS])
theorem scal_of_scalD {d : D} (h : scalD d d = true) : d.scal = true := by
  cases d <;> first | rfl | (cases h; done)
theorem fEq_self {d : D} {S : Sto} (h : d.cmpb = true) : fEq d d S = some (.bl true, S) := by
  unfold fEq
  by_cases hs : scalD d d = true
  · rw [if_pos hs, eqS_self (scal_of_scalD hs)]
  · rw [see_flat (D.cmpf h), if_neg hs, if_pos ⟨h, h⟩, eqv_self (D.cmpf h)]
theorem fNe_self {d : D} {S : Sto} (h : d.cmpb = true) : fNe d d S = some (.bl false, S) := by
  unfold fNe
  by_cases hs : scalD d d = true
  · rw [if_pos hs, eqS_self (scal_of_scalD hs)]
    rfl
  · rw [see_flat (D.cmpf h), if_neg hs, if_pos ⟨h, h⟩, eqv_self (D.cmpf h)]
    rfl
theorem shb_full {d : D} (h : d.shb = true) : d.full = true := by
  unfold D.shb at h
  rw [Bool.and_eq_true, Bool.and_eq_true, Bool.and_eq_true] at h
  exact h.1.1.1
theorem fRepr_of {d : D} {S : Sto} (h : d.shb = true) : fRepr [d] S = some (.str d.py.shown, S) := by
  show (if (see S d).shb = true then some (D.str (see S d).py.shown, S) else none) = _
  rw [see_full (shb_full h)]
  exact if_pos h
theorem fIn_data {d e : D} {ys : List D} {S : Sto} (he : seqOf e = some ys) (hn : d.scal = false) (c1 : d.cmpb = true) (c2 : e.cmpb = true) : fIn false d e S = some (.bl ((D.pys ys).any fun z => PyData.eqv z d.py), S) := by
  have hs : ¬ (d.scal = true ∧ ys.all D.scal = true) := by rw [hn]; simp
  unfold fIn
  cases d <;> first | (cases hn; done) | (simp only [he]; rw [if_neg hs, if_pos ⟨c1, c2⟩]; rfl)
theorem fNin_data {d e : D} {ys : List D} {S : Sto} (he : seqOf e = some ys) (hn : d.scal = false) (c1 : d.cmpb = true) (c2 : e.cmpb = true) : fIn true d e S = some (.bl (!(D.pys ys).any fun z => PyData.eqv z d.py), S) := by
  have hs : ¬ (d.scal = true ∧ ys.all D.scal = true) := by rw [hn]; simp
  unfold fIn
  cases d <;> first | (cases hn; done) | (simp only [he]; rw [if_neg hs, if_pos ⟨c1, c2⟩]; rfl)
theorem cellAt_of {S : Sto} {i : Nat} {c : List D} (h : S[i]? = some (some c)) : cellAt (.loc i) S = some (i, c) := by
  unfold cellAt
  simp only [h]
theorem eqS_str {x y : Str} : eqS (.str x) (.str y) = (x == y) := rfl
def m_alike : MF := mFn 2 (sRet (mAndV (mBin fEq (mVar 0) (mVar 1)) (mBin fEq (mCall fRepr (mCons (mVar 0) mNil)) (mCall fRepr (mCons (mVar 1) mNil)))))
theorem alike {d : D} {S : Sto} (h : fine d = true) (n : siz d ≤ 60) : m_alike [d, d] S = some (.bl true, S) := by
  have e : fEq (.str d.py.shown) (.str d.py.shown) S = some (.bl true, S) := by
    show some (D.bl (eqS (.str d.py.shown) (.str d.py.shown)), S) = _
    rw [eqS_self rfl]
  exact e_fn (e_ret (e_andVT (e_bin (e_var rfl) (e_var rfl) (fEq_self (cmpb_of h n))) (e_bin (e_call (e_cons (e_var rfl) e_nil) (fRepr_of (shb_of h n))) (e_call (e_cons (e_var rfl) e_nil) (fRepr_of (shb_of h n))) e)))
/-! names -/
theorem nm_ok {s : Str} (h : Nm s) : PyData.strOk s = true := by
  show s.cps.all _ = true
  rw [← Array.all_toList, List.all_eq_true]
  intro c hc
  have := h.2.2 c hc
  unfold LetB at this
  rw [Bool.and_eq_true, decide_eq_true_eq, decide_eq_true_eq] at this
  exact decide_eq_true (by omega)
theorem nm_fine {s : Str} (h : Nm s) : fine (.str s) = true := by
  simp only [fine, nm_ok h, Bool.true_and, decide_eq_true_eq]
  have := h.2.1
  omega
theorem nmD_fine {d : D} (h : NmD d) : fine d = true := by
  obtain ⟨s, rfl, h⟩ := h
  exact nm_fine h
theorem tup_fine {ds : List D} (h : ∀ d ∈ ds, fine d = true) : fine (.tup ds) = true := by
  simp only [fine]
  induction ds with
  | nil => rfl
  | cons d ds ih =>
    simp only [fines, Bool.and_eq_true]
    exact ⟨h d (List.mem_cons_self ..), ih fun e he => h e (List.mem_cons_of_mem _ he)⟩
theorem lst_fine {ds : List D} (h : ∀ d ∈ ds, fine d = true) : fine (.lst ds) = true := by
  have := tup_fine h
  simp only [fine] at this ⊢
  exact this
/-! the program's look at a name -/
theorem let_alpha : ((List.range 26).all fun i => Unicode.isAlpha (97 + i) && Unicode.isLower (97 + i) && !(Unicode.isUpper (97 + i) || Unicode.isTitle (97 + i))) = true := by decide +kernel
theorem let_all {c : Nat} (h : LetB c = true) : Unicode.isAlpha c = true ∧ Unicode.isLower c = true ∧ (Unicode.isUpper c || Unicode.isTitle c) = false ∧ c < 128 := by
  unfold LetB at h
  rw [Bool.and_eq_true, decide_eq_true_eq, decide_eq_true_eq] at h
  have q := List.all_eq_true.mp let_alpha (c - 97) (List.mem_range.mpr (by omega))
  rw [show 97 + (c - 97) = c by omega, Bool.and_eq_true, Bool.and_eq_true] at q
  exact ⟨q.1.1, q.1.2, by simpa using q.2, by omega⟩
theorem nm_ascii {s : Str} (h : Nm s) : Txt.isascii s = true := by
  show s.cps.all _ = true
  rw [← Array.all_toList, List.all_eq_true]
  exact fun c hc => decide_eq_true (let_all (h.2.2 c hc)).2.2.2
theorem nm_alpha {s : Str} (h : Nm s) : Txt.isalpha s = true := by
  show (decide (s.length > 0) && s.cps.all _) = true
  rw [Bool.and_eq_true, ← Array.all_toList, List.all_eq_true]
  exact ⟨decide_eq_true h.1, fun c hc => (let_all (h.2.2 c hc)).1⟩
theorem nm_lower {s : Str} (h : Nm s) : Txt.islower s = true := by
  show (s.cps.any _ && !s.cps.any _) = true
  rw [Bool.and_eq_true, ← Array.any_toList, ← Array.any_toList]
  have hl : s.cps.toList.length = s.length := by simp [Str.length]
  constructor
  · rw [List.any_eq_true]
    have h1 := h.1
    cases hc : s.cps.toList with
    | nil => rw [hc] at hl; simp at hl; omega
    | cons c r => exact ⟨c, List.mem_cons_self .., (let_all (h.2.2 c (by rw [hc]; exact List.mem_cons_self ..))).2.1⟩
  · rw [Bool.not_eq_true', List.any_eq_false]
    intro c hc
    rw [(let_all (h.2.2 c hc)).2.2.1]
    decide
end SH
/-! DLk -/
/-! DLk: what the module's top has written; get, extend, sum, min; a tuple so many times. -/
namespace DL
open PySem PySem.Spec PyProof.Rows L2
variable {F : Hp}
theorem u1 {A : Around} (h : A.units + 65 < cLine) : A.units + 1 < cLine := by omega
theorem rle {c k : Nat} (n : Nat) (h : c ≤ k) : c ≤ k + n := by omega
/-! ### written values -/
mutual
/-- v, of the written part, is this data -/
def litB (K : PySem.W.Frag) : Value → D → Bool
  | .none, .non => true
  | .bool a, .bl b => a == b
  | .int i _, .int j => i == j
  | .str x _, .str y => x == y
  | .ref a, .tup ds => match K.lookup a with
    | some ⟨.type "tuple", _, .seq its _, _⟩ => decide (its.size ≤ 1000) && litsB K its.toList ds
    | _ => false
  | _, _ => false
def litsB (K : PySem.W.Frag) : List Value → List D → Bool
  | [], [] => true
  | v :: vs, d :: ds => litB K v d && litsB K vs ds
  | _, _ => false
end
mutual
theorem litB_ok {K : PySem.W.Frag} : ∀ {d : D} {v : Value}, litB K v d = true → ∃ w : V, RelV w v ∧ ∀ μ G, Rp K μ G w d
  | .non, v, h => by
    cases v <;> first | (simp [litB] at h; done) | exact ⟨.non, rfl, fun _ _ => .non⟩
  | .bl b, v, h => by
    cases v <;> first | (simp [litB] at h; done) | skip
    rename_i a
    have : a = b := by simpa [litB] using h
    subst this
    exact ⟨.bl a, rfl, fun _ _ => .bl a⟩
  | .int j, v, h => by
    cases v <;> first | (simp [litB] at h; done) | skip
    rename_i i t
    have : i = j := by simpa [litB] using h
    subst this
    exact ⟨.int i, ⟨t, rfl⟩, fun _ _ => .int i⟩
  | .str y, v, h => by
    cases v <;> first | (simp [litB] at h; done) | skip
    rename_i x t
    have : x = y := by simpa [litB] using h
    subst this
    exact ⟨.str x, ⟨t, rfl⟩, fun _ _ => .str x⟩
  | .tup ds, v, h => by
    cases v <;> first | (simp [litB] at h; done) | skip
    rename_i a
    unfold litB at h
    split at h
    · rename_i od its n sl hl
      rw [Bool.and_eq_true, decide_eq_true_eq] at h
      obtain ⟨xs, h1, h2⟩ := litsB_ok h.2
      exact ⟨.ref a, rfl, fun μ G => .tup (.inr ⟨_, its, n, hl, rfl, rfl, sz6 (Nat.le_trans h.1 (by decide)), h1⟩) (h2 μ G)⟩
    · cases h
  | .lst _, v, h => by cases v <;> (simp [litB] at h; done)
  | .rol _, v, h => by cases v <;> (simp [litB] at h; done)
  | .dct _ _, v, h => by cases v <;> (simp [litB] at h; done)
  | .loc _, v, h => by cases v <;> (simp [litB] at h; done)
theorem litsB_ok {K : PySem.W.Frag} : ∀ {ds : List D} {vs : List Value}, litsB K vs ds = true → ∃ ws : List V, Vals ws vs ∧ ∀ μ G, RpA K μ G ws ds
  | [], [], _ => ⟨[], .nil, fun _ _ => .nil⟩
  | [], _ :: _, h => by simp [litsB] at h
  | _ :: _, [], h => by simp [litsB] at h
  | d :: ds, v :: vs, h => by
    unfold litsB at h
    rw [Bool.and_eq_true] at h
    obtain ⟨w, h1, h2⟩ := litB_ok h.1
    obtain ⟨ws, g1, g2⟩ := litsB_ok h.2
    exact ⟨w :: ws, .cons h1 g1, fun μ G => .cons (h2 μ G) (g2 μ G)⟩
end
/-- at d stands a written dict, these its keys and values -/
def tabB (K : PySem.W.Frag) : List DictEntry → List (Str × D) → Bool
  | [], [] => true
  | e :: es, t :: ts => (match e.key with
    | .str x _ => x == t.1
    | _ => false) && litB K e.val t.2 && tabB K es ts
  | _, _ => false
structure TabD (K : PySem.W.Frag) (w : World) (d : Addr) (tb : List (Str × D)) : Prop where
  ex : ∃ es n, KDict K w d es n ∧ tabB K es.toList tb = true
theorem tabB_find {K : PySem.W.Frag} {z : Str} : ∀ {es : List DictEntry} {tb : List (Str × D)}, tabB K es tb = true → (match tb.lookup z with
    | some v => ∃ e, es.find? (·.key.isStr z) = some e ∧ litB K e.val v = true
    | none => es.find? (·.key.isStr z) = none) ∧ es.any (·.refKey) = false
  | [], [], _ => ⟨rfl, rfl⟩
  | [], _ :: _, h => by simp [tabB] at h
  | _ :: _, [], h => by simp [tabB] at h
  | e :: es, t :: ts, h => by
    unfold tabB at h
    rw [Bool.and_eq_true, Bool.and_eq_true] at h
    obtain ⟨⟨h1, h2⟩, h3⟩ := h
    obtain ⟨i1, i2⟩ := tabB_find (z := z) h3
    obtain ⟨k, hk0⟩ : ∃ k, e.key = .str t.1 k := by
      split at h1
      · rename_i x k hk
        have : x = t.1 := by simpa using h1
        subst this
        exact ⟨k, hk⟩
      · cases h1
    have hr : e.refKey = false := by
      unfold DictEntry.refKey
      rw [hk0]
    refine ⟨?_, by rw [List.any_cons, hr, i2]; rfl⟩
    have hk : e.key.isStr z = (t.1 == z) := by
      rw [hk0]
      rfl
    rw [List.find?_cons, hk]
    obtain ⟨t1, t2⟩ := t
    rw [List.lookup_cons]
    by_cases hz : t1 = z
    · have b1 : (z == t1) = true := by rw [hz]; exact beq_self_eq_true _
      have b2 : (t1 == z) = true := by rw [hz]; exact beq_self_eq_true _
      rw [b1]
      show (∃ e', (match t1 == z with | true => some e | false => _) = some e' ∧ _)
      rw [b2]
      exact ⟨e, rfl, h2⟩
    · have b1 : (z == t1) = false := beq_eq_false_iff_ne.mpr fun q => hz q.symm
      have b2 : (t1 == z) = false := beq_eq_false_iff_ne.mpr hz
      rw [b1]
      show (match ts.lookup z with
        | some v => ∃ e', (match t1 == z with | true => some e | false => es.find? (·.key.isStr z)) = some e' ∧ _
        | none => (match t1 == z with | true => some e | false => es.find? (·.key.isStr z)) = none)
      rw [b2]
      exact i1
theorem tabD_ns {K : PySem.W.Frag} {w : World} {d : Addr} {es : Array DictEntry} {n : Nat} {tb : List (Str × D)} (D' : KDict K w d es n) (h : tabB K es.toList tb = true) (z : Str) : match tb.lookup z with
    | some v => ∃ u, PySem.W.nsIn K d z = some (some u) ∧ litB K u v = true
    | none => PySem.W.nsIn K d z = some none := by
  obtain ⟨h1, h2⟩ := tabB_find (z := z) h
  unfold PySem.W.nsIn
  rw [D'.at_]
  cases q : tb.lookup z with
  | some v =>
    rw [q] at h1
    obtain ⟨e, g1, g2⟩ := h1
    refine ⟨e.val, ?_, g2⟩
    show (match es.toList.find? (·.key.isStr z) with | some e => some (some e.val) | none => _) = _
    rw [g1]
  | none =>
    rw [q] at h1
    show (match es.toList.find? (·.key.isStr z) with | some e => some (some e.val) | none => if es.toList.any (·.refKey) then none else some none) = _
    rw [show es.toList.find? (·.key.isStr z) = none from h1]
    show (if es.toList.any (·.refKey) then none else some none) = _
    rw [h2]
    rfl
section
variable {X : Cx} {K : PySem.W.Frag} {pos apos : Pos} {o e f : Expr} {m n l : ME}
theorem d_glit {x : Str} {u : Value} {d : D} (hm : X.mg x = some u) (h : litB X.K u d = true) (hg : Gl X x := by rfl) (hd : (x == ("__debug__" : Str)) = false := by decide) : PE X (.Name x pos) (tD X.K (mC d)) := by
  obtain ⟨w, h1, h2⟩ := litB_ok h
  exact d_c (pe_glob hg hm h1 hd) h2
/-- k in TABLE, k not in TABLE, TABLE[k] -/
def mDin (neg : Bool) (tb : List (Str × D)) (m : ME) : ME := fun ρ S => (m ρ S).bind fun p => match p.1 with
  | .str z => some (.bl (if neg then !(tb.lookup z).isSome else (tb.lookup z).isSome), p.2)
  | _ => none
def mDix (tb : List (Str × D)) (m : ME) : ME := fun ρ S => (m ρ S).bind fun p => match p.1 with
  | .str z => (tb.lookup z).map fun d => (d, p.2)
  | _ => none
theorem din_weak {w : World} {d : Addr} {tb : List (Str × D)} {es : Array DictEntry} {n : Nat} {neg : Bool} (D' : KDict K w d es n) (hE : tabB K es.toList tb = true) : ∀ σ H Q, tD K (mDin neg tb m) σ H Q →
    tOp (fun x y H Q => ∃ (z : Str) (r : Option Value), x = .str z ∧ y = .ref d ∧ PySem.W.nsIn K d z = some r ∧ Q (.bl (if neg then !r.isSome else r.isSome)) H) (tD K m) (tC (.ref d)) σ H Q := fun σ H Q ⟨F, μ, G, S, ρ, dd, S', r, re, e, k⟩ => by
  obtain ⟨⟨d1, S1⟩, e1, e⟩ := bindS e
  simp only at e
  split at e
  · rename_i z
    cases e
    refine ⟨F, μ, G, S, ρ, _, _, r, re, e1, fun μ1 G1 H1 p1 x1 q1 v1 r1 => ?_⟩
    cases r1
    have hz := tabD_ns D' hE z
    have fin := k μ1 G1 H1 p1 x1 q1
    cases ql : tb.lookup z with
    | some v =>
      rw [ql] at hz fin
      obtain ⟨u, g1, g2⟩ := hz
      exact ⟨z, _, rfl, rfl, g1, fin _ (.bl _)⟩
    | none =>
      rw [ql] at hz fin
      exact ⟨z, _, rfl, rfl, hz, fin _ (.bl _)⟩
  · cases e
theorem d_din {d : Addr} {tb : List (Str × D)} {y : Str} {q : Pos} (T : TabD X.K X.w d tb) (hm : X.mg y = some (.ref d)) (h : PE X e (tD X.K m)) (hg : Gl X y := by rfl) (hb : behindInMarks .In (.Name y q) = false := by rfl) (hd : (y == ("__debug__" : Str)) = false := by decide) : PE X (.Compare e [.In] [.Name y q] pos) (tD X.K (mDin false tb m)) :=
  let ⟨_, _, D', hE⟩ := T.ex
  (pe_cmpR (op_in_kd D') h (pe_glob (v := .ref d) hg hm rfl hd) hb).weak (din_weak (neg := false) D' hE)
theorem d_dnin {d : Addr} {tb : List (Str × D)} {y : Str} {q : Pos} (T : TabD X.K X.w d tb) (hm : X.mg y = some (.ref d)) (h : PE X e (tD X.K m)) (hg : Gl X y := by rfl) (hb : behindInMarks .NotIn (.Name y q) = false := by rfl) (hd : (y == ("__debug__" : Str)) = false := by decide) : PE X (.Compare e [.NotIn] [.Name y q] pos) (tD X.K (mDin true tb m)) :=
  let ⟨_, _, D', hE⟩ := T.ex
  (pe_cmpR (op_notIn_kd D') h (pe_glob (v := .ref d) hg hm rfl hd) hb).weak (din_weak (neg := true) D' hE)
theorem t_din {d : Addr} {tb : List (Str × D)} {y : Str} {q : Pos} (T : TabD X.K X.w d tb) (hm : X.mg y = some (.ref d)) (h : PE X e (tD X.K m)) (hg : Gl X y := by rfl) (hb : behindInMarks .In (.Name y q) = false := by rfl) (hd : (y == ("__debug__" : Str)) = false := by decide) : PT X (.Compare e [.In] [.Name y q] pos) (tDT X.K (mBl (mDin false tb m))) :=
  let ⟨_, _, D', hE⟩ := T.ex
  (pt_cmpR (op_in_kd D') h (pe_glob (v := .ref d) hg hm rfl hd) hb).weak fun σ H Q z => tTest_mono (din_weak (neg := false) D' hE) σ H Q (tB_weak σ H Q z)
theorem t_dnin {d : Addr} {tb : List (Str × D)} {y : Str} {q : Pos} (T : TabD X.K X.w d tb) (hm : X.mg y = some (.ref d)) (h : PE X e (tD X.K m)) (hg : Gl X y := by rfl) (hb : behindInMarks .NotIn (.Name y q) = false := by rfl) (hd : (y == ("__debug__" : Str)) = false := by decide) : PT X (.Compare e [.NotIn] [.Name y q] pos) (tDT X.K (mBl (mDin true tb m))) :=
  let ⟨_, _, D', hE⟩ := T.ex
  (pt_cmpR (op_notIn_kd D') h (pe_glob (v := .ref d) hg hm rfl hd) hb).weak fun σ H Q z => tTest_mono (din_weak (neg := true) D' hE) σ H Q (tB_weak σ H Q z)
theorem d_dix {d : Addr} {tb : List (Str × D)} {y : Str} {q : Pos} (T : TabD X.K X.w d tb) (hm : X.mg y = some (.ref d)) (h : PE X e (tD X.K m)) (hs : PlainIx e := by exact fun _ _ => rfl) (hg : Gl X y := by rfl) (hd : (y == ("__debug__" : Str)) = false := by decide) : PE X (.Subscript (.Name y q) e pos) (tD X.K (mDix tb m)) := by
  obtain ⟨es, n, D', hE⟩ := T.ex
  refine (pe_ix ix_kdict (pe_glob (v := .ref d) hg hm rfl hd) h hs).weak fun σ H Q ⟨F, μ, G, S, ρ, dd, S', r, re, e, k⟩ => ?_
  obtain ⟨⟨d1, S1⟩, e1, e⟩ := bindS e
  simp only at e
  split at e
  · rename_i z
    obtain ⟨d2, hd2, e⟩ := map_some e
    cases e
    refine ⟨F, μ, G, S, ρ, _, _, r, re, e1, fun μ1 G1 H1 p1 x1 q1 v1 r1 => ?_⟩
    cases r1
    have hz := tabD_ns D' hE z
    rw [hd2] at hz
    obtain ⟨u, g1, g2⟩ := hz
    obtain ⟨w, g3, g4⟩ := litB_ok g2
    exact ⟨d, z, w, rfl, rfl, ⟨es, n, u, D'.at_, D'.lit, g1, g3⟩, k μ1 G1 H1 p1 x1 q1 _ (g4 _ _)⟩
  · cases e
/-! ### x.extend(y) -/
def mExt (m n : ME) : ME := fun ρ S => (m ρ S).bind fun p => (cellAt p.1 p.2).bind fun _ => (n ρ p.2).bind fun q => (cellAt p.1 q.2).bind fun c => match q.1 with
  | .lst ys => if c.2.length + ys.length ≤ 1000000 then some (.non, q.2.set c.1 (some (c.2 ++ ys))) else none
  | _ => none
theorem d_extend (h : PE X o (tD X.K m)) (h2 : PE X e (tD X.K n)) (hbase : attributeBase o "extend" X.env (eval o X.env) = eval o X.env := by rfl)
    (hfew : ((backTo pos (starEach [e] X.env)).all (fun x => !x.1) && (backToKw pos (keywordEach [] X.env)).all (fun x => x.1.isSome)
      && decide (([e] : List Expr).length + ([] : List Keyword).length + (if ([] : List Keyword).isEmpty then 0 else 1) < 30)) = true := by rfl)
    (hline : (apos.endLine == pos.line) = true := by rfl) (hs : starEach [e] X.env = (false, eval e X.env) :: starEach [] X.env := by rfl) (hplain : (backTo pos (starEach [] X.env)).any (·.1) = false := by rfl) :
    PE X (.Call (.Attribute o "extend" apos) [e] [] pos) (tD X.K (mExt m n)) :=
  (pe_bm PySem.F.plainAttrs_list PySem.F.slot_list_extend PySem.F.type_list_extend mt_extend h (a_cons h2 a_nil hs) hbase hfew hline hs hplain).weak fun σ H Q ⟨F, μ, G, S, ρ, d, S', r, re, ev, k⟩ => by
    obtain ⟨⟨d1, S1⟩, e1, ev⟩ := bindS ev
    obtain ⟨⟨i0, c0⟩, e2, ev⟩ := bindS ev
    obtain ⟨⟨d2, S2⟩, e3, ev⟩ := bindS ev
    obtain ⟨⟨i, c⟩, e4, ev⟩ := bindS ev
    simp only at e2 e3 e4 ev
    split at ev
    · obtain ⟨hl, ev⟩ := ifs ev
      cases ev
      refine ⟨F, μ, G, S, ρ, d1, S1, r, re, e1, fun μ1 G1 H1 p1 x1 q1 v1 r1 => ?_⟩
      obtain ⟨a0, vs0, rfl, _, g2, _⟩ := q1.cellV r1 e2
      refine ⟨.inl ⟨rfl, vs0, SqL.of g2⟩, F, μ1, G1, S1, ρ, _, S2, q1, re.mono p1 x1, (by simp [mCons, mNil, e3]; rfl), fun μ2 G2 H2 p2 x2 q2 us r2 => ?_⟩
      cases r2 with
      | cons ru rr =>
        cases rr
        cases ru with
        | lst b1 b2 =>
          obtain ⟨a, vs, hv, hm, g3, g4⟩ := q2.cellV (r1.mono p2 x2) e4
          cases hv
          obtain ⟨_, hc⟩ := cellAt_is e4
          refine ⟨_, _, vs, _, rfl, rfl, g3, q2.sub _ _ b1, by rw [g4.len, b2.len]; exact sz6 hl, ?_⟩
          exact k μ2 G2 _ (p1.trans p2) (x1.trans x2) (q2.write hc hm (g4.app b2)) _ .non
    · cases ev
/-! ### d.get(k, x), d[k] of a dict that nobody changes -/
def dGet (ks : List Key) (ds : List D) (k : Key) : Option D := ((ks.zip ds).find? fun p => decide (p.1 = k)).map (·.2)
theorem dGet_V {μ : List Addr} {G : Hp} {k : Key} : ∀ {ks : List Key} {vs : List V} {ds : List D}, RpA K μ G vs ds → (match dGet ks ds k with
    | some d => ∃ v, valV (ks.zip vs) k = some v ∧ Rp K μ G v d
    | none => valV (ks.zip vs) k = none)
  | [], _, _, _ => rfl
  | _ :: _, _, _, .nil => rfl
  | q :: ks, _, _, .cons (v := v) (d := d) r t => by
    have ih := dGet_V (k := k) (ks := ks) t
    unfold dGet valV at ih ⊢
    simp only [List.zip_cons_cons, List.find?_cons]
    by_cases hq : q = k
    · rw [decide_eq_true hq]
      exact ⟨v, rfl, r⟩
    · rw [decide_eq_false hq]
      exact ih
def keyOf : D → Option Key
  | .int i => some (.inl i)
  | .str z => some (.inr z)
  | _ => none
theorem keyOf_V {μ : List Addr} {G : Hp} {v : V} {d : D} {k : Key} (r : Rp K μ G v d) (h : keyOf d = some k) : v = kV k := by
  cases r <;> first | (cases h; rfl) | (cases h; done)
def isDictD : D → Bool
  | .dct _ _ => true
  | _ => false
def mGet2 (m n l : ME) : ME := fun ρ S => (m ρ S).bind fun p => (n ρ p.2).bind fun q => (l ρ q.2).bind fun t => match p.1 with
  | .dct ks ds => (keyOf q.1).map fun k => ((dGet ks ds k).getD t.1, t.2)
  | _ => none
theorem d_get2 (hu : X.A.units + 1 < cLine) (ho : PE X o (tD X.K m)) (he : PE X e (tD X.K n)) (hf : PE X f (tD X.K l)) (hbase : attributeBase o "get" X.env (eval o X.env) = eval o X.env := by rfl)
    (hfew : ((backTo pos (starEach [e, f] X.env)).all (fun x => !x.1) && (backToKw pos (keywordEach [] X.env)).all (fun x => x.1.isSome)
      && decide (([e, f] : List Expr).length + ([] : List Keyword).length + (if ([] : List Keyword).isEmpty then 0 else 1) < 30)) = true := by rfl)
    (hline : (apos.endLine == pos.line) = true := by rfl) (htr : backTo pos (starEach [e, f] X.env) = [(false, eval e X.env), (false, eval f X.env)] := by rfl) : PE X (.Call (.Attribute o "get" apos) [e, f] [] pos) (tD X.K (mGet2 m n l)) :=
  (pe_dget2 hu ho he hf ⟨hbase, hfew, hline, htr⟩).weak fun σ H Q ⟨F, μ, G, S, ρ, d, S', r, re, ev, k⟩ => by
    obtain ⟨⟨d1, S1⟩, e1, ev⟩ := bindS ev
    obtain ⟨⟨d2, S2⟩, e2, ev⟩ := bindS ev
    obtain ⟨⟨d3, S3⟩, e3, ev⟩ := bindS ev
    simp only at e2 e3 ev
    cases d1 with
    | dct ks ds =>
      obtain ⟨kk, hk, ev⟩ := map_some ev
      cases ev
      refine ⟨F, μ, G, S, ρ, _, S1, r, re, e1, fun μ1 G1 H1 p1 x1 q1 v1 r1 => ?_⟩
      cases r1 with
      | @dct a _ xs _ h1 h2 h3 =>
        refine ⟨a, rfl, .inl ⟨_, .inl (q1.sub _ _ h1)⟩, F, μ1, G1, S1, ρ, d2, S2, q1, re.mono p1 x1, e2, fun μ2 G2 H2 p2 x2 q2 v2 r2 => ?_⟩
        refine ⟨F, μ2, G2, S2, ρ, d3, _, q2, re.mono (p1.trans p2) (x1.trans x2), e3, fun μ3 G3 H3 p3 x3 q3 v3 r3 => ?_⟩
        have hv := keyOf_V (r2.mono p3 x3) hk
        have hg := dGet_V (k := kk) (ks := ks) (h2.mono (p2.trans p3) (x2.trans x3))
        refine ⟨valV (ks.zip xs) kk, .inl ⟨_, kk, .inl (q3.sub _ _ ((x2.trans x3) _ _ h1)), hv, rfl⟩, ?_⟩
        have fin := k μ3 G3 H3 ((p1.trans p2).trans p3) ((x1.trans x2).trans x3) q3
        cases hq : dGet ks ds kk with
        | some d =>
          rw [hq] at hg fin
          obtain ⟨v, g1, g2⟩ := hg
          rw [g1]
          exact fin _ g2
        | none =>
          rw [hq] at hg fin
          rw [hg]
          exact fin _ r3
    | _ => cases ev
/-! ### sum, min -/
def intsOf : List D → Option (List Int)
  | [] => some []
  | .int i :: r => (intsOf r).map (i :: ·)
  | _ => none
theorem ints_V {μ : List Addr} {G : Hp} : ∀ {vs : List V} {ds : List D} {bs : List Int}, RpA K μ G vs ds → intsOf ds = some bs → vs = bs.map V.int
  | _, _, _, .nil, h => by
    cases h
    rfl
  | _, _, _, .cons (d := d) r t, h => by
    cases d with
    | int b =>
      cases r
      obtain ⟨bs, h1, h2⟩ := map_some h
      cases h2
      rw [ints_V t h1]
      rfl
    | _ => cases h
def fSum : MF := fun ds S => match ds with
  | [.lst xs] => (intsOf xs).map fun ns => (.int ns.sum, S)
  | _ => none
theorem c_sum : CalD K (rSum K) fSum := by
  intro F μ G S H vs ds z S' Q r ra hf a
  unfold fSum at hf
  split at hf
  · obtain ⟨ns, h1, h2⟩ := map_some hf
    cases h2
    cases ra with
    | cons r1 rr =>
      cases rr
      cases r1 with
      | lst g1 g2 =>
        have e := ints_V g2 h1
        subst e
        exact ⟨_, ns, rfl, SqL.of (r.sub _ _ g1), tD_now a r (.int _)⟩
  · cases hf
def fMin2 : MF := fun ds S => match ds with
  | [.int i, .int j] => some (.int (if j < i then j else i), S)
  | _ => none
theorem c_min2 : CalD K (fun xs H Q => ∃ i j, xs = [.int i, .int j] ∧ Q (.int (if j < i then j else i)) H) fMin2 := by
  intro F μ G S H vs ds z S' Q r ra hf a
  unfold fMin2 at hf
  split at hf
  · cases hf
    cases ra with
    | cons r1 rr =>
      cases rr with
      | cons r2 rr =>
        cases rr
        cases r1
        cases r2
        exact ⟨_, _, rfl, tD_now a r (.int _)⟩
  · cases hf
/-! ### a tuple so many times -/
theorem tuple_mul1 (l : Addr) (items : Array Value) (n : Nat) (dd : Option Addr) (sl : Array (Option Value)) (u : Tok) :
    Meets (Builtin.«tuple.__mul__» ⟨[.ref l, .int 1 u], []⟩) (fun _ R s => s.heap.get? l = some { cls := .type "tuple", dict := dd, data := .seq items n, slots := sl } ∧ R (.ok (.ret (.ref l))) s) :=
  .of_wp fun prog w A R s h => by
    obtain ⟨hp, g, d, tk, os⟩ := s
    obtain ⟨hl, h⟩ := h
    have f1 := AutoSeq1.idx_int
    have c1 : (items.isEmpty || (1 : Int) == 1) = true := by simp
    wp_walk using wpAny_loadPart' hl
    repeat (first
      | (refine wpAny_ite_true (decide_eq_true c1) ?_; wp_walk using wpAny_loadPart' hl)
      | (refine wpAny_ite_true c1 ?_; wp_walk using wpAny_loadPart' hl))
    exact ⟨_, rfl, h⟩
theorem tuple_mul0 (l : Addr) (items : Array Value) (n : Nat) (dd : Option Addr) (sl : Array (Option Value)) (x : Int) (u : Tok) (c0 : (decide (x < -(2 ^ 63)) || decide (x ≥ 2 ^ 63)) = false) (c1 : (items.isEmpty || x == 1) = false) (c2 : (decide (x ≤ 0) || items.isEmpty) = true) :
    Meets (Builtin.«tuple.__mul__» ⟨[.ref l, .int x u], []⟩) (fun _ R s => s.heap.get? l = some { cls := .type "tuple", dict := dd, data := .seq items n, slots := sl } ∧
      R (.ok (.ret (Value.ref s.heap.objs.size))) { s with heap := s.heap.push { cls := Value.type "tuple", data := Data.seq #[] }, toks := s.toks }) :=
  .of_wp fun prog w A R s h => by
    obtain ⟨hp, g, d, tk, os⟩ := s
    obtain ⟨hl, h⟩ := h
    have f1 := AutoSeq1.idx_int
    wp_walk using wpAny_loadPart' hl
    repeat (first
      | (refine wpAny_ite_false (decide_eq_false (by rw [c0]; exact Bool.false_ne_true)) ?_; wp_walk using wpAny_loadPart' hl)
      | (refine wpAny_ite_false (decide_eq_false (by rw [c1]; exact Bool.false_ne_true)) ?_; wp_walk using wpAny_loadPart' hl)
      | (refine wpAny_ite_true (decide_eq_true c2) ?_; wp_walk using wpAny_loadPart' hl))
    exact ⟨_, rfl, h⟩

def rRepT1 (K : PySem.W.Frag) : R2 := fun x y H Q => ∃ l k xs, x = .ref l ∧ y = .int k ∧ SqT K H l xs ∧ xs ≠ [] ∧ -1000 ≤ k ∧ k ≤ 1 ∧ (k = 1 → Q (.ref l) H) ∧ (k ≤ 0 → ∀ p, H p = none → Q (.ref p) (upd H p (.tup [])))
theorem op_repT1 : OpR X (binaryOp .Mult) (rRepT1 X.K) := by
  intro pins s σ H x y v u Q I rx ry h
  obtain ⟨l, k, xs, rfl, rfl, hT, hne, h0, h1, q1, q0⟩ := h
  cases rx
  obtain ⟨t, rfl⟩ := ry
  obtain ⟨its, r, ⟨⟨cls, dd, data, sl⟩, ho, hc, n, hd⟩, hs⟩ := I.tuple hT
  simp only at hc hd
  subst hc hd
  have hle : its.length = xs.length := r.length.symm
  have hi : its.toArray.isEmpty = false := by
    cases its with
    | nil => exact absurd (List.eq_nil_of_length_eq_zero hle.symm) hne
    | cons a b => rfl
  have c0 : (decide (k < -(2 ^ 63)) || decide (k ≥ 2 ^ 63)) = false := by
    rw [decide_eq_false (by omega), decide_eq_false (by omega)] <;> rfl
  by_cases hk : k = 1
  · subst hk
    exact wpAny_binaryOp_repeat_ref (T := "tuple") (U := "int") (by decide) ⟨_, ho, rfl⟩ (fun s' => typeIs_int s' 1 t) noFill_tuple_mul PySem.F.fills_int_mul PySem.F.slot_int_rmul repeat_tuple PySem.F.slot_int_index.lookup
      (call_meets PySem.F.slot_int_rmul (typeIs_int s 1 t) PySem.F.entry_int_rmul (PySem.F.args_int_rmul_2 _ _) (int_rmul_tuple 1 t l its.toArray n dd sl)
        ⟨ho, rfl, ⟨_, ho, rfl⟩, call_meets PySem.F.slot_tuple_mul ⟨_, ho, rfl⟩ PySem.F.entry_tuple_mul (PySem.F.args_tuple_mul_2 _ _) (tuple_mul1 l its.toArray n dd sl t) ⟨ho, ⟨.ref l, H, I, rfl, q1 rfl⟩⟩⟩)
  · have c1 : (its.toArray.isEmpty || k == 1) = false := by
      rw [hi, Bool.false_or]
      exact beq_eq_false_iff_ne.mpr hk
    have c2 : (decide (k ≤ 0) || its.toArray.isEmpty) = true := by
      rw [hi, Bool.or_false]
      exact decide_eq_true (by omega)
    refine wpAny_binaryOp_repeat_ref (T := "tuple") (U := "int") (by decide) ⟨_, ho, rfl⟩ (fun s' => typeIs_int s' k t) noFill_tuple_mul PySem.F.fills_int_mul PySem.F.slot_int_rmul repeat_tuple PySem.F.slot_int_index.lookup
      (call_meets PySem.F.slot_int_rmul (typeIs_int s k t) PySem.F.entry_int_rmul (PySem.F.args_int_rmul_2 _ _) (int_rmul_tuple k t l its.toArray n dd sl)
        ⟨ho, rfl, ⟨_, ho, rfl⟩, call_meets PySem.F.slot_tuple_mul ⟨_, ho, rfl⟩ PySem.F.entry_tuple_mul (PySem.F.args_tuple_mul_2 _ _) (tuple_mul0 l its.toArray n dd sl k t c0 c1 c2) ⟨ho, ?_⟩⟩)
    refine ⟨.ref s.heap.objs.size, _, I.laid (t' := s.toks) (o := .tup []) (fun b ob q => Heap.get?_push_of_some _ q) (Nat.le_refl _) ?_, rfl, q0 (by omega) _ (I.hok.fresh (Nat.le_refl _))⟩
    exact ⟨Nat.zero_le _, _, .nil, IsTup.new _ _⟩
def fMulT : MOp
  | .tup xs, .int k, S => if xs.isEmpty = false ∧ -1000 ≤ k ∧ k ≤ 1000 ∧ xs.length ≤ 1000 then some (.tup (if k ≤ 0 then [] else (List.replicate k.toNat xs).flatten), S) else none
  | _, _, _ => none
def rMulT (K : PySem.W.Frag) : R2 := fun x y H Q => rRepT1 K x y H Q ∨ rRepT K x y H Q
theorem o_mulT : OpR X (binaryOp .Mult) (rMulT X.K) := op_repT1.or op_repT
theorem f_mulT : OpD K (rMulT K) fMulT := by
  intro F μ G S H x y d e z S' Q r r1 r2 hf a
  cases d with
  | tup xs =>
   cases e with
   | int k =>
    obtain ⟨⟨hn, h0, h1, hl⟩, hz⟩ := ifs hf
    cases hz
    cases r1 with
    | @tup p vs _ h1' h2 =>
      cases r2
      have hv : vs ≠ [] := fun e => by
        subst e
        cases h2
        cases hn
      by_cases hk : k ≤ 1
      · refine .inl ⟨p, k, vs, rfl, rfl, r.sub.st h1', hv, h0, hk, fun e => ?_, fun e q hq => ?_⟩
        · subst e
          rw [if_neg (by decide)] at a
          have : (List.replicate (1 : Int).toNat xs).flatten = xs := by
            show (List.replicate 1 xs).flatten = xs
            simp
          rw [this] at a
          exact tD_now a r (.tup h1' h2)
        · rw [if_pos e] at a
          exact tD_new a r hq (.tup (SqT.of upd_same) .nil)
      · refine .inr ⟨p, k, vs, rfl, rfl, r.sub.st h1', hv, by omega, h1, by rw [h2.len]; exact hl, fun q hq => ?_⟩
        rw [if_neg (by omega)] at a
        exact tD_new a r hq (.tup (SqT.of upd_same) ((h2.rep _).mono (Pf.refl _) (Ex.new (r.sub.back hq))))
   | _ => cases hf
  | _ => cases hf
/-- the products of all kinds -/
def fMul' : MOp := fun d e S => (fMul d e S).orElse fun _ => fMulT d e S
theorem o_mul' : OpR X (binaryOp .Mult) (fun x y H Q => rMulD x y H Q ∨ rMulT X.K x y H Q) := o_mul.or o_mulT
theorem f_mul' : OpD K (fun x y H Q => rMulD x y H Q ∨ rMulT K x y H Q) fMul' := OpD.or f_mul f_mulT
end
end DL
/-! DLm -/
/-! DLm: a written dict of defs, one of them taken and called. -/
namespace DL
open PySem PySem.Spec PyProof.Rows L2
variable {F : Hp}
/-- at d stands a written dict of defs -/
def tabF : List DictEntry → List (Str × Addr) → Bool
  | [], [] => true
  | e :: es, t :: ts => (match e.key, e.val with
    | .str x _, .ref a => x == t.1 && a == t.2
    | _, _ => false) && tabF es ts
  | _, _ => false
structure FTab (K : PySem.W.Frag) (w : World) (d : Addr) (tb : List (Str × Addr)) : Prop where
  ex : ∃ es n, KDict K w d es n ∧ tabF es.toList tb = true
theorem tabF_find {z : Str} {a : Addr} : ∀ {es : List DictEntry} {tb : List (Str × Addr)}, tabF es tb = true → tb.lookup z = some a → ∃ e, es.find? (·.key.isStr z) = some e ∧ e.val = .ref a
  | [], [], _, h => by cases h
  | [], _ :: _, h, _ => by simp [tabF] at h
  | _ :: _, [], h, _ => by simp [tabF] at h
  | e :: es, t :: ts, h, hl => by
    unfold tabF at h
    rw [Bool.and_eq_true] at h
    obtain ⟨h1, h3⟩ := h
    obtain ⟨k, hk0, hv0⟩ : ∃ k, e.key = .str t.1 k ∧ e.val = .ref t.2 := by
      split at h1
      · rename_i x k b hk hb
        rw [Bool.and_eq_true] at h1
        have e1 : x = t.1 := by simpa using h1.1
        have e2 : b = t.2 := by simpa using h1.2
        subst e1 e2
        exact ⟨k, hk, hb⟩
      · cases h1
    have hk : e.key.isStr z = (t.1 == z) := by
      rw [hk0]
      rfl
    rw [List.find?_cons, hk]
    obtain ⟨t1, t2⟩ := t
    rw [List.lookup_cons] at hl
    by_cases hz : t1 = z
    · have b1 : (z == t1) = true := by rw [hz]; exact beq_self_eq_true _
      have b2 : (t1 == z) = true := by rw [hz]; exact beq_self_eq_true _
      rw [b1] at hl
      rw [show ((t1, t2) : Str × Addr).1 = t1 from rfl, b2]
      have : t2 = a := Option.some.inj hl
      subst this
      exact ⟨e, rfl, hv0⟩
    · have b1 : (z == t1) = false := beq_eq_false_iff_ne.mpr fun q => hz q.symm
      have b2 : (t1 == z) = false := beq_eq_false_iff_ne.mpr hz
      rw [b1] at hl
      rw [show ((t1, t2) : Str × Addr).1 = t1 from rfl, b2]
      exact tabF_find h3 hl
theorem REnv.hide {K : PySem.W.Frag} {μ : List Addr} {G : Hp} {σ : L2.St} {ρ : Env'} {v : V} (r : REnv K μ G σ ρ) (i : Nat) : REnv K μ G (σ.set i (some v)) (ρ.set i none) := by
  refine ⟨by rw [List.length_set, List.length_set, r.len], fun j e q => ?_⟩
  by_cases hj : i = j
  · subst hj
    by_cases hi : i < ρ.length
    · rw [List.getElem?_set_self hi] at q
      cases q
    · rw [List.getElem?_eq_none (by rw [List.length_set]; omega)] at q
      cases q
  · rw [List.getElem?_set_ne hj] at q
    obtain ⟨w, h1, h2⟩ := r.at' j e q
    exact ⟨w, by rw [List.getElem?_set_ne hj]; exact h1, h2⟩
/-- the def at f is the function m, to be called with these parameters -/
structure HeldG (P : Program) (w : World) (K : PySem.W.Frag) (mg : Str → Option Value) (base : Heap) (k : Nat) (f : Addr) (ps : List Str) (m : MF) : Prop where
  ex : ∃ fd : FuncData, FnG P w K mg base k f fd ps m ∧ PySem.W.keepIn K (.ref f) = true ∧ Binds K fd ps []
section
variable {X : Cx} {pos p : Pos}
theorem pe_callG {k i : Nat} {f : Addr} {ps : List Str} {m : MF} {x : Str} {e : Expr} {es : List Expr} {t : TA} (A : HeldG X.prog X.w X.K X.mg X.base k f ps m) (hr : Room k X.A) (hgd : X.A.guards = some []) (hN : X.N[i]? = some x) (hv : Vis X.env.scope x) (ha : PA X (e :: es) t)
    (hdb : (x == ("__debug__" : Str)) = false := by decide) (hcd : (x == ("__classdict__" : Str)) = false := by decide)
    (he : starEach (e :: es) X.env = (false, eval e X.env) :: starEach es X.env := by rfl) (hpl : (backTo pos (starEach es X.env)).any (·.1) = false := by rfl) :
    PE X (.Call (.Name x p) (e :: es) [] pos) (fun σ H Q => σ[i]? = some (some (.ref f)) ∧ t σ H fun vs H1 => spD X.K ps m vs H1 Q) := by
  obtain ⟨fd, FG, hk, hb⟩ := A.ex
  refine ⟨fun pins s σ H Q I h => ?_⟩
  obtain ⟨hs, ht⟩ := h
  refine wpAny_Call_Name_kw (thn ((pe_var (pos := p) hN hv hdb hcd).run pins s σ H (fun v H1 => v = .ref f ∧ H1 = H) I ⟨.ref f, hs, rfl, rfl⟩) fun u s1 ⟨v, H1, I1, r1, q1⟩ => ?_)
  obtain ⟨rfl, rfl⟩ := q1
  cases r1
  apply PySem.W.callWith_K (h₀ := X.base) I.ok.mod.kin hk (thn (ha.run pos pins s1 σ _ _ I1 ht) ?_) he hpl
  rintro us s2 ⟨vs, H2, I2, rv, sp⟩
  refine ⟨I2.kIn, wpAny_call ?_⟩
  obtain ⟨F1, μ1, G1, S2, ds1, d1, S3, r1, ra1, hl1, ee1, kk1⟩ := sp
  have hlu : (us ++ []).length = ps.length := by rw [List.append_nil, ← rv.length, ra1.len, hl1]
  have bd := hb s2 us I2.kIn hlu
  rw [List.append_nil] at bd
  apply codeAny_mono (FG.run X.A X.stack s2 H2 ⟨us, []⟩ us vs Q hr hgd I2.env0 bd rv ⟨F1, μ1, G1, S2, ds1, d1, S3, r1, ra1, hl1, ee1, kk1⟩)
  rintro res s3 ⟨u, rfl, hq⟩
  exact I2.after hq
theorem pe_callSel {k i : Nat} {ps : List Str} {x : Str} {e : Expr} {es : List Expr} {t : TA} {Sel : Addr → MF → Prop} (A : ∀ f m, Sel f m → HeldG X.prog X.w X.K X.mg X.base k f ps m) (hr : Room k X.A) (hgd : X.A.guards = some []) (hN : X.N[i]? = some x) (hv : Vis X.env.scope x) (ha : PA X (e :: es) t)
    (hdb : (x == ("__debug__" : Str)) = false := by decide) (hcd : (x == ("__classdict__" : Str)) = false := by decide)
    (he : starEach (e :: es) X.env = (false, eval e X.env) :: starEach es X.env := by rfl) (hpl : (backTo pos (starEach es X.env)).any (·.1) = false := by rfl) :
    PE X (.Call (.Name x p) (e :: es) [] pos) (fun σ H Q => ∃ f m, Sel f m ∧ σ[i]? = some (some (.ref f)) ∧ t σ H fun vs H1 => spD X.K ps m vs H1 Q) :=
  ⟨fun pins s σ H Q I ⟨f, m, hS, h⟩ => (pe_callG (A f m hS) hr hgd hN hv ha hdb hcd he hpl).run pins s σ H Q I h⟩
/-- h = TABLE[k]; return h(..) -/
def sForms (i : Nat) (fs : List (Str × MF)) (mk : ME) (ma : MA) : MS := fun ρ S => (mk ρ S).bind fun p => match p.1 with
  | .str z => if i < ρ.length then (fs.lookup z).bind fun m => (ma (ρ.set i none) p.2).bind fun q => (m q.1 q.2).map fun r => (.rt r.1, r.2) else none
  | _ => none
theorem ss_forms {k i : Nat} {ps : List Str} {y nm : Str} {ek e : Expr} {es : List Expr} {d : Addr} {tb : List (Str × Addr)} {fs : List (Str × MF)} {mk : ME} {ma : MA} {q q1 q2 q3 q4 q5 q6 : Pos} (T : FTab X.K X.w d tb) (hm : X.mg y = some (.ref d)) (hk : PE X ek (tD X.K mk)) (ha : PA X (e :: es) (tDA X.K ma))
    (hla : ∀ ρ S ds S', ma ρ S = some (ds, S') → ds.length = ps.length)
    (hA : ∀ z m, fs.lookup z = some m → ∃ f, tb.lookup z = some f ∧ HeldG X.prog X.w X.K X.mg X.base k f ps m) (hr : Room k X.A) (hgd : X.A.guards = some []) (nd : X.N.Nodup)
    (hi : X.N[i]? = some nm := by rfl) (hx : Loc X.env.scope nm := by first | exact Or.inl rfl | exact Or.inr rfl) (hv : Vis X.env.scope nm := by first | exact Or.inl rfl | exact Or.inr (Or.inl rfl) | exact Or.inr (Or.inr rfl))
    (hs : PlainIx ek := by exact fun _ _ => rfl) (hg : Gl X y := by rfl) (hd : (y == ("__debug__" : Str)) = false := by decide) (hdb : (nm == ("__debug__" : Str)) = false := by decide) (hcd : (nm == ("__classdict__" : Str)) = false := by decide)
    (hsw : swapsWith (.Subscript (.Name y q) ek q1) (some (.Name nm q2)) q3.line X.env = pure false := by rfl) (hf : X.fn nm = true ∨ X.env.scope.names.lookup nm = some .local := by first | exact .inl rfl | exact .inr rfl | assumption)
    (he : starEach (e :: es) X.env = (false, eval e X.env) :: starEach es X.env := by rfl) (hpl : (backTo q5 (starEach es X.env)).any (·.1) = false := by rfl) :
    PSs X [.Assign [.Name nm q2] (.Subscript (.Name y q) ek q1) q3, .Return (some (.Call (.Name nm q4) (e :: es) [] q5)) q6] (tDS X.K (sForms i fs mk ma)) := by
  obtain ⟨es0, n0, D', hE⟩ := T.ex
  refine (pss_cons (ps_set nd hi hx (pe_ix ix_kdict (pe_glob (v := .ref d) hg hm rfl hd) hk hs) hsw hf) (pss_one (ps_ret (pe_callSel (i := i) (Sel := fun f m => HeldG X.prog X.w X.K X.mg X.base k f ps m) (fun f m h => h) hr hgd hi hv ha hdb hcd he hpl)))).weak fun E σ H ⟨F, μ, G, S, ρ, fl, S', r, re, ev, kk⟩ => ?_
  obtain ⟨⟨d1, S1⟩, e1, ev⟩ := bindS ev
  simp only at ev
  split at ev
  · rename_i z
    by_cases hil : i < ρ.length
    case neg =>
      rw [if_neg hil] at ev
      cases ev
    rw [if_pos hil] at ev
    obtain ⟨m, hfs, ev⟩ := bindS ev
    obtain ⟨⟨ds, S2⟩, e2, ev⟩ := bindS ev
    obtain ⟨⟨dr, S3⟩, e3, ev⟩ := map_some ev
    cases ev
    obtain ⟨f, hf2, HG⟩ := hA z m hfs
    obtain ⟨en, g1, g2⟩ := tabF_find hE hf2
    have hns : PySem.W.nsIn X.K d z = some (some (.ref f)) := by
      unfold PySem.W.nsIn
      rw [D'.at_]
      simp [g1, g2]
    refine ⟨F, μ, G, S, ρ, _, _, r, re, e1, fun μ1 G1 H1 p1 x1 q1 v1 r1 => ?_⟩
    cases r1
    refine ⟨d, z, .ref f, rfl, rfl, ⟨es0, n0, .ref f, D'.at_, D'.lit, hns, rfl⟩, ?_⟩
    refine ⟨f, m, HG, ?_, ?_⟩
    · rw [List.getElem?_set_self (by rw [re.len]; exact hil)]
    · exact ⟨F, μ1, G1, S1, ρ.set i none, ds, S2, q1, (re.mono p1 x1).hide i, e2, fun μ2 G2 H2 p2 x2 q2 vs rv => ⟨F, μ2, G2, S2, ds, dr, S3, q2, rv, hla _ _ _ _ e2, e3, kk.mono (p1.trans p2) (x1.trans x2)⟩⟩
  · cases ev
/-- the dict's defs, key by key -/
def FsOk (P : Program) (w : World) (K : PySem.W.Frag) (mg : Str → Option Value) (base : Heap) (k : Nat) (ps : List Str) (fs : List (Str × MF)) (tb : List (Str × Addr)) : Prop :=
  ∀ z m, fs.lookup z = some m → ∃ f, tb.lookup z = some f ∧ HeldG P w K mg base k f ps m
end
section
variable {P : Program} {w : World} {K : PySem.W.Frag} {mg : Str → Option Value} {base : Heap} {k : Nat} {ps : List Str}
theorem fo_nil : FsOk P w K mg base k ps [] [] := fun z m h => by cases h
theorem fo_cons {x : Str} {f : Addr} {fd : FuncData} {m : MF} {j : Nat} {fs : List (Str × MF)} {tb : List (Str × Addr)} (G : FnG P w K mg base j f fd ps m) (hj : j ≤ k) (hk : PySem.W.keepIn K (.ref f) = true) (hb : Binds K fd ps []) (t : FsOk P w K mg base k ps fs tb) :
    FsOk P w K mg base k ps ((x, m) :: fs) ((x, f) :: tb) := fun z m' h => by
  rw [List.lookup_cons] at h ⊢
  cases e : z == x with
  | true =>
    rw [e] at h
    cases h
    exact ⟨f, rfl, ⟨fd, G.mono hj, hk, hb⟩⟩
  | false =>
    rw [e] at h
    exact t z m' h
/-- a def of which nothing is said -/
theorem fn_none {f : Addr} {fd : FuncData} : FnG P w K mg base k f fd ps (fun _ _ => none) := ⟨fun A out s H args us vs Q hr hg e0 hb rv ⟨F, μ, G, S, ds, d, S', r, ra, hl, e, kk⟩ => by cases e⟩
end
end DL
/-! DLn -/
/-! DLn: a tuple or a list, turned about. -/
namespace DL
open PySem PySem.Spec PyProof.Rows L2
variable {F : Hp}
section
variable {P : Program} {w : World} {A : Around} {E : Value → Shared → Prop} {s : Shared}
theorem bk_adj (n : Nat) : Builtin.Slice.sliceAdjust none none (-1) (n : Int) = ((n : Int) - 1, -1) := rfl
theorem bk_pl (n : Nat) : Builtin.Slice.slicePlaces ((n : Int) - 1) (-1) (-1) = n := by
  unfold Builtin.Slice.slicePlaces
  rw [if_neg (show ¬ ((-1 : Int) > 0) by decide)]
  by_cases h : n = 0
  · subst h
    rfl
  · rw [if_pos (by omega), show (-(-1) : Int) = 1 from rfl, Int.ediv_one]
    omega
theorem bk_app {sl : Addr} {vs : Value} {n : Nat} {Q : Int × Int × Nat → Shared → Prop} (g0 : s.heap.IsSliceOf sl .none .none vs) (ps : IsPart vs (some (-1))) (h : Q ((n : Int) - 1, -1, n) s) :
    wpAny (model P w) A (Builtin.Slice.sliceApplied (.ref sl) (pure (n : Int))) Q E s := by
  obtain ⟨o, g, c, d⟩ := g0
  unfold Builtin.Slice.sliceApplied Builtin.Slice.sliceFields
  refine wpAny_bind (wpAny_bind (wpAny_field g d (x := .none) rfl (wpAny_bind (wpAny_field g d (x := .none) rfl (wpAny_bind (wpAny_field g d (x := vs) rfl (wpAny_pure ?_)))))))
  refine wpAny_bind (HT.slicePart_ ps ?_)
  show wpAny _ _ (if ((-1 : Int) == 0) = true then _ else _) _ _ s
  rw [if_neg (by decide)]
  refine wpAny_bind (slicePart_none (wpAny_bind (slicePart_none (wpAny_bind (wpAny_pure ?_)))))
  show wpAny _ _ (match Builtin.Slice.sliceAdjust none none (-1) (n : Int) with | (lo, hi) => pure (lo, (-1 : Int), Builtin.Slice.slicePlaces lo hi (-1))) _ _ s
  rw [bk_adj]
  show wpAny _ _ (pure ((n : Int) - 1, (-1 : Int), Builtin.Slice.slicePlaces ((n : Int) - 1) (-1) (-1))) _ _ s
  rw [bk_pl]
  exact wpAny_pure h
theorem bk_fm {f : Nat → Option Value} {g : Nat → Value} : ∀ {l : List Nat}, (∀ k ∈ l, f k = some (g k)) → l.filterMap f = l.map g
  | [], _ => rfl
  | k :: l, h => by
    rw [List.filterMap_cons, h k (.head _), List.map_cons, bk_fm fun j hj => h j (.tail _ hj)]
theorem bk_all (xs : Array Value) : ((List.range xs.size).filterMap fun (k : Nat) => xs[((xs.size : Int) - 1 + (k : Int) * (-1)).toNat]?).toArray = xs.toList.reverse.toArray := by
  refine congrArg List.toArray ?_
  have e1 : ∀ k ∈ List.range xs.size, xs[((xs.size : Int) - 1 + (k : Int) * (-1)).toNat]? = some (xs.toList.reverse.getD k .none) := fun k hk => by
    have hk := List.mem_range.mp hk
    have e : ((xs.size : Int) - 1 + (k : Int) * (-1)).toNat = xs.size - 1 - k := by omega
    rw [e, ← Array.getElem?_toList, List.getD_eq_getElem?_getD, List.getElem?_reverse (by rw [Array.length_toList]; exact hk), Array.length_toList,
      List.getElem?_eq_getElem (by rw [Array.length_toList]; omega)]
    rfl
  have e2 : (List.range xs.size).filterMap (fun (k : Nat) => xs[((xs.size : Int) - 1 + (k : Int) * (-1)).toNat]?) = (List.range xs.size).map fun k => xs.toList.reverse.getD k .none := by
    exact bk_fm e1
  rw [e2]
  refine List.ext_getElem (by simp) fun i h1 h2 => ?_
  rw [List.getElem_map, List.getElem_range, List.getD_eq_getElem?_getD, List.getElem?_eq_getElem h2]
  rfl
theorem bk_get {t sl : Addr} {items : Array Value} {vs : Value} {Q : Value → Shared → Prop} (ht : IsTup s.heap t items) (hs : s.heap.IsSliceOf sl .none .none vs) (ps : IsPart vs (some (-1)))
    (h : Q (.ref s.heap.objs.size) { s with heap := s.heap.push { cls := .type "tuple", data := .seq items.toList.reverse.toArray } }) (hz : items.size ≤ sizeLine) :
    wpAny (model P w) A (getItem (.ref t) (.ref sl)) Q E s := by
  obtain ⟨o, g, c, d⟩ := id hs
  have ty : s.TypeIs (.ref sl) "slice" := ⟨o, g, c⟩
  have room : sizeOk (.seq items.toList.reverse.toArray) := by
    show items.toList.reverse.toArray.size ≤ sizeLine
    rw [List.size_toArray, List.length_reverse, Array.length_toList]
    exact hz
  unfold getItem; (try with_reducible refine wpAny_holding ?_); (first | refine wpAny_bind (wpAny_pure ?_) | skip)
  refine wpAny_bind (wpAny_sequenceKey ht.typeIs (by decide) (wpAny_bind (wpAny_callSpecial?_slot (name := Str.ofString "__getitem__") ht.typeIs PyProof.Rows.slot_tuple_getitem (wpAny_call_entry PyProof.Rows.slot_tuple_getitem ht.typeIs entry_tuple_getitem ?_ (args_tuple_getitem _ _)))))
  show wpAny _ _ (Builtin.Tuple.tupleItemsOf (.ref t) >>= _) _ _ s
  refine wpAny_bind (tupleItemsOf_ ht (wpAny_bind (wpAny_typeOf ty ?_)))
  rw [if_pos (by decide)]
  refine wpAny_bind (bk_app hs ps ?_)
  have no : ¬ ((((items.size : Int) - 1) == 0 && (-1 : Int) == 1 && items.size == items.size) = true) := by
    intro q
    rw [Bool.and_eq_true, Bool.and_eq_true] at q
    exact absurd q.1.2 (by decide)
  show wpAny _ _ (if (((items.size : Int) - 1) == 0 && (-1 : Int) == 1 && items.size == items.size) = true then _ else _) _ _ s
  rw [if_neg no, bk_all]
  first
    | exact wpAny_bind (m := Builtin.Tuple.tupleExact _) (wpAny_newObj_type (wpAny_pure ⟨_, rfl, wpAny_pure h⟩) room)
    | exact wpAny_bind (m := Builtin.Tuple.tupleExact _) (wpAny_newObj_type (wpAny_bind (wpAny_pure (wpAny_pure ⟨_, rfl, wpAny_pure h⟩))) room)
    | exact wpAny_bind (wpAny_bind (m := Builtin.Tuple.tupleExact _) (wpAny_newObj_type (wpAny_pure (wpAny_pure ⟨_, rfl, wpAny_pure h⟩)) room))
    | exact wpAny_bind (wpAny_bind (m := Builtin.Tuple.tupleExact _) (wpAny_newObj_type (wpAny_pure ⟨_, rfl, wpAny_pure h⟩) room))
end
section
variable {X : Cx}
/-- x[::-1], x a tuple -/
def tRevT (K : PySem.W.Frag) (te : TE) : TE := fun σ H Q => te σ H fun x H1 => ∃ a xs, x = .ref a ∧ SqT K H1 a xs ∧ ∀ p, H1 p = none → Q (.ref p) (upd H1 p (.tup xs.reverse))
theorem pe_revT {e : Expr} {te : TE} {k : Nat} {p1 p2 p3 pos : Pos} (he : PE X e te) : PE X (.Subscript e (.Slice none none (some (.UnaryOp .USub (.Constant (.int 1) k p1) p2)) p3) pos) (tRevT X.K te) := by
  refine ⟨fun pins s σ H Q I h => Subscript_ (thn (he.run pins s σ H _ I h) fun v s1 ⟨x, H1, I1, r1, q1⟩ => ?_)⟩
  obtain ⟨a, xs, ex, hx, q⟩ := q1
  subst ex
  cases r1
  have one : PO X (some (.UnaryOp .USub (.Constant (.int 1) k p1) p2)) (tPart (tUn (rU fun i => .int (-i)) (tC (.int 1)))) := po_some (pe_un un_neg pe_int)
  refine wpAny_Slice (thn (po_none.run pins s1 σ H1 (fun o H2 => o = none ∧ H2 = H1) I1 ⟨rfl, rfl⟩) fun vl s2 ⟨l, Ha, Ia, pl, el, ea⟩ => ?_)
  subst el ea
  refine thn (po_none.run pins s2 σ Ha (fun o H3 => o = none ∧ H3 = Ha) Ia ⟨rfl, rfl⟩) fun vu s3 ⟨u, Hb, Ib, pu, eu, eb⟩ => ?_
  subst eu eb
  refine thn (one.run pins s3 σ Hb (fun o H4 => o = some (-1) ∧ H4 = Hb) Ib ⟨1, rfl, -1, rfl, rfl, rfl⟩) fun vs s4 ⟨o, Hc, Ic, ps, eo, ec⟩ => ?_
  subst eo ec
  cases pl
  cases pu
  have Id : Inv X pins σ Hc { s4 with heap := s4.heap.push { cls := .type "slice", data := .fields #[.none, .none, vs] } } := Ic.kept (t' := s4.toks) fun b ob z => Heap.get?_push_of_some _ z
  obtain ⟨its, r, ht, hz⟩ := Id.tuple hx
  have hlen := r.length
  show wpAny (model X.prog X.w) X.A (subscriptTail e (.Slice none none (some (.UnaryOp .USub (.Constant (.int 1) k p1) p2)) p3) (.ref a) (.ref s4.heap.objs.size)) (EP X pins σ Q) X.xe { s4 with heap := s4.heap.push { cls := .type "slice", data := .fields #[.none, .none, vs] } }
  refine tail_any (ops := [.ref a, .ref s4.heap.objs.size]) ht.typeIs PyProof.Rows.slot_tuple_getitem.lookup (bk_get ht (Heap.IsSliceOf.new _ .none .none vs) ps ?_ (by rw [List.size_toArray]; omega)) (by with_unfolding_all rfl)
  refine ⟨.ref _, _, Id.laid (t' := s4.toks) (o := .tup xs.reverse) (fun b ob z => Heap.get?_push_of_some _ z) (Nat.le_refl _) ⟨by rw [List.length_reverse]; exact hz, _, r.reverse, IsTup.new _ _⟩, rfl, q _ (Id.hok.fresh (Nat.le_refl _))⟩
theorem RpA.rev {K : PySem.W.Frag} {μ : List Addr} {G : Hp} : ∀ {vs : List V} {ds : List D}, RpA K μ G vs ds → RpA K μ G vs.reverse ds.reverse
  | _, _, .nil => .nil
  | _, _, .cons h t => by
    rw [List.reverse_cons, List.reverse_cons]
    exact (RpA.rev t).app (.cons h .nil)
def mRev (m : ME) : ME := fun ρ S => (m ρ S).bind fun p => match p.1 with
  | .tup xs => some (.tup xs.reverse, p.2)
  | _ => none
theorem d_rev {e : Expr} {m : ME} {k : Nat} {p1 p2 p3 pos : Pos} (h : PE X e (tD X.K m)) : PE X (.Subscript e (.Slice none none (some (.UnaryOp .USub (.Constant (.int 1) k p1) p2)) p3) pos) (tD X.K (mRev m)) :=
  (pe_revT h).weak fun σ H Q ⟨F, μ, G, S, ρ, d, S', r, re, e, a⟩ => by
    obtain ⟨⟨d1, S1⟩, e1, e⟩ := bindS e
    cases d1 with
    | tup xs =>
      cases e
      refine ⟨F, μ, G, S, ρ, _, S1, r, re, e1, fun μ1 G1 H1 p1 x1 q1 v1 r1 => ?_⟩
      cases r1 with
      | tup h1 h2 => exact ⟨_, _, rfl, q1.sub.st h1, fun p hp => tD_new (a.mono p1 x1) q1 hp (.tup (SqT.of upd_same) (h2.rev.mono (Pf.refl _) (Ex.new (q1.sub.back hp))))⟩
    | _ => cases e
/-! ### a slice of what may be a place of the store -/
def fSlS (d : D) (lo hi : Option Int) (S : Sto) : Option D := match d with
  | .loc n => match S[n]? with
    | some (some c) => some (.lst (cutD c lo hi))
    | _ => none
  | d => fSl d lo hi
theorem f_slS {K : PySem.W.Frag} {μ : List Addr} {G H : Hp} {S : Sto} {x : V} {d z : D} {lo hi : Option Int} {Q : VK} (r : Rel K F μ S H G) (r1 : Rp K μ G x d) (hf : fSlS d lo hi S = some z) (a : Aft K F μ G S fun μ' G' H' => ∀ v, Rp K μ' G' v z → Q v H') : rSlD K x lo hi H Q := by
  unfold fSlS at hf
  split at hf
  · rename_i n
    cases r1 with
    | loc hm =>
      split at hf
      · rename_i c hc
        cases hf
        obtain ⟨b, vs, h1, h2, h3, h4⟩ := r.cell n c hc
        rw [hm] at h1
        cases h1
        exact .inl ⟨_, _, rfl, SqL.of h2, fun p hp => tD_new a r hp (.lst upd_same ((h3.cut lo hi).mono (Pf.refl _) (Ex.new (r.sub.back hp))))⟩
      · cases hf
  · exact f_sl r r1 hf a
def mSlS (m : ME) (l h : MO) : ME := fun ρ S => (m ρ S).bind fun p => (l ρ p.2).bind fun q => (h ρ q.2).bind fun t => (fSlS p.1 q.1 t.1 t.2).map fun z => (z, t.2)
theorem d_slS {e : Expr} {lo hi : Option Expr} {m : ME} {l h : MO} {p2 pos : Pos} (he : PE X e (tD X.K m)) (hl : PO X lo (tDO X.K l)) (hh : PO X hi (tDO X.K h)) : PE X (.Subscript e (.Slice lo hi none p2) pos) (tD X.K (mSlS m l h)) :=
  (pe_slice (r := rSlD X.K) (sl_list.or (sl_tupA.or sl_str)) he hl hh).weak fun σ H Q ⟨F, μ, G, S, ρ, d, S', r, re, e, a⟩ => by
    obtain ⟨⟨d1, S1⟩, e1, e⟩ := bindS e
    obtain ⟨⟨d2, S2⟩, e2, e⟩ := bindS e
    obtain ⟨⟨d3, S3⟩, e3, e⟩ := bindS e
    obtain ⟨z, hz, e⟩ := map_some e
    cases e
    exact ⟨F, μ, G, S, ρ, d1, S1, r, re, e1, fun μ1 G1 H1 p1 x1 q1 v1 r1 => ⟨F, μ1, G1, S1, ρ, d2, S2, q1, re.mono p1 x1, e2, fun μ2 G2 H2 p2 x2 q2 => ⟨F, μ2, G2, S2, ρ, d3, _, q2, re.mono (p1.trans p2) (x1.trans x2), e3, fun μ3 G3 H3 p3 x3 q3 =>
      f_slS q3 (r1.mono (p2.trans p3) (x2.trans x3)) hz (a.mono ((p1.trans p2).trans p3) ((x1.trans x2).trans x3))⟩⟩⟩
/-! ### a, b = a list -/
def gU (n : Nat) (g : MGs) : MG := fun d ρ => match d with
  | .lst ds => if ds.length = n then g ds ρ else none
  | _ => none
theorem g_unl {es : List Expr} {k : Nat} {g : MGs} {ts : List Nat} {n : Nat} {pos : Pos} (hc : X.calm = true) (h : PGs X es (tDGs X.K g ts)) (hn : (assignEach es X.env).length = n := by rfl) (hst : (assignEach es X.env).findIdx? (·.1) = none := by rfl) : PG X (.Tuple es k pos) (tDG X.K (gU n g) ts) :=
  (pg_unl hc h hn hst).weak fun v σ H Q ⟨F, μ, G, S, ρ, d, ρ', r, re, rv, e, q⟩ => by
    cases rv with
    | lst h1 h2 =>
      unfold gU at e
      simp only at e
      split at e
      · rename_i hl
        exact ⟨_, _, rfl, SqL.of (r.sub _ _ h1), h2.len.trans hl, F, μ, G, S, ρ, _, ρ', r, re, h2, e, q⟩
      · cases e
    | _ => cases e
end
end DL
/-! DLs -/
/-! DLs: how many unlike texts stand in a row: len(set(x)). -/
namespace DL
open PySem PySem.Spec PyProof.Rows L2
variable {F : Hp}
/-- how many unlike things stand among the first -/
def unl {κ : Type} [DecidableEq κ] (xs : List κ) : Nat → Nat
  | 0 => 0
  | i + 1 => match xs[i]? with
    | some x => if decide (x ∈ xs.take i) = true then unl xs i else unl xs i + 1
    | none => unl xs i
theorem unl_le {κ : Type} [DecidableEq κ] (xs : List κ) : ∀ i, unl xs i ≤ i
  | 0 => Nat.le_refl _
  | i + 1 => by
    have := unl_le xs i
    unfold unl
    split
    · split <;> omega
    · omega
section
variable {P : Program} {w : World} {κ : Type} [DecidableEq κ] {knd : KeyKind P w κ}
theorem so_at {h h' : Heap} {a : Addr} {S : κ → Bool} {n : Nat} (R : h.SetOf knd a S n) (k : ∀ o, h.get? a = some o → h'.get? a = some o) : h'.SetOf knd a S n :=
  let ⟨o, es, ep, t, g, r⟩ := R
  ⟨o, es, ep, t, k o g, r⟩
theorem so_eq {h : Heap} {a : Addr} {S T : κ → Bool} {n m : Nat} (R : h.SetOf knd a S n) (e : ∀ k, S k = T k) (en : n = m) : h.SetOf knd a T m := by
  rw [← funext e, ← en]
  exact R
variable {A : Around} {R : Result → Shared → Prop} {I : Addr} {fp wr : List Addr} {G : Array GenState → Array GenState → Prop} {n : Nat} {Pv : Nat → Value → Prop} {St : Nat → Shared → Prop}
theorem fill (W : WalksS P w A.in1 I fp wr G n Pv St) (a : Addr) (out : a ∉ fp) (xs : List κ) (few : n + 1 < scanBound) (val : ∀ i v, Pv i v → ∃ k, xs[i]? = some k ∧ knd.is k v = true ∧ v.scannable = true) :
    ∀ (r i : Nat) (s : Shared), n - i = r → i ≤ n → St i s → s.heap.SetOf knd a (fun z => decide (z ∈ xs.take i)) (unl xs i) →
      (∀ s', Moved (a :: wr) G s s' → s'.heap.SetOf knd a (fun z => decide (z ∈ xs.take n)) (unl xs n) → R (.ok (.ret .none)) s') →
      codeAny (model P w) A (.builtin "set.update.loop" ⟨[.ref a, .ref I], []⟩) R s := by
  have o2 : a ∉ wr := fun h => out (W.sub _ h)
  have up : ∀ b ∈ wr, b ∈ a :: wr := fun b hb => List.mem_cons_of_mem _ hb
  intro r
  induction r with
  | zero =>
    intro i s e hi st R0 fin
    obtain rfl : i = n := by omega
    refine codeAny_builtin F.entry_set_update_loop (by
      rw [Around.under_plainId F.plain_set_update_loop _]
      exact wpAny_bind (W.done s _ _ st fun s' m => wpAny_pure (fin s' (m.mono up) (so_at R0 fun o g => m.heap a o o2 g))))
  | succ r ih =>
    intro i s e hi st R0 fin
    have lt : i < n := by omega
    refine codeAny_builtin F.entry_set_update_loop ?_; rw [Around.under_plainId F.plain_set_update_loop _]
    show wpAny _ A.in1 (pyNext (.ref I) >>= _) _ _ s
    refine wpAny_bind (W.item i s _ _ lt st fun v s' pv st' m => ?_)
    obtain ⟨x, hx, hk, hs⟩ := val i v pv
    have R1 := so_at R0 fun o g => m.heap a o o2 g
    show wpAny _ A.in1 (holding [v] (setAdd a v) >>= _) _ _ s'
    refine wpAny_bind (wpAny_holding (by
      unfold setAdd
      refine wpAny_holding (wpAny_bind (knd.pyHash (k := x) hk ?_))
      refine wpAny_setAddHashed_of (s := { s' with toks := s'.toks + 1 }) hk hs R1 (by have := unl_le xs i; omega) fun h' sb R2 => ?_
      have e2 : unl xs (i + 1) = if decide (x ∈ xs.take i) = true then unl xs i else unl xs i + 1 := by
        show (match xs[i]? with
          | some x => _
          | none => _) = _
        rw [hx]
      have R3 : h'.SetOf knd a (fun z => decide (z ∈ xs.take (i + 1))) (unl xs (i + 1)) := so_eq R2 (fun z => by
        rw [List.take_add_one, hx]
        simp [List.mem_append]) e2.symm
      refine wpAny_pure ⟨plainId_quiet F.plain_set_update_loop _, ih (i + 1) _ (by omega) lt (W.frame _ s' _ _ st' (Nat.le_succ _) fun b hb o g => ?_) R3 fun s3 m3 R4 => fin s3 (Moved.trans W.gtrans ((m.mono up).then_heap (Nat.le_succ _) fun b o hb g => ?_) m3) R4⟩
      · rw [sb.2 b (fun h : b = a => out (h ▸ hb))]
        exact g
      · rw [sb.2 b (fun h : b = a => hb (by rw [h]; exact List.mem_cons_self))]
        exact g))
end
local macro_rules | `(tactic| walk_at "go") => `(tactic| (repeat (any_goals (first | assumption | wp_step))))
abbrev emptySet (led : Bool) : Obj := { cls := .type "set", dict := none, data := .set #[] 0 (.fresh 0 0 led) }
section
variable {P : Program} {w : World} {κ : Type} [DecidableEq κ] {knd : KeyKind P w κ} {A : Around} {E : Value → Shared → Prop} {s : Shared}
theorem set_of_list {l : Addr} {items : Array Value} {xs : List κ} {Q : Value → Shared → Prop} (calm : A.handled = none) (hl : s.heap.IsList l items) (hn : xs.length = items.size) (few : items.size + 1 < scanBound)
    (hi : ∀ (i : Nat) (v : Value), items[i]? = some v → ∃ k, xs[i]? = some k ∧ knd.is k v = true ∧ v.scannable = true)
    (q : ∀ (h' : Heap) (tk : Nat), h'.SetOf knd s.heap.objs.size (fun z => decide (z ∈ xs.take items.size)) (unl xs items.size) → (∀ b o, b < s.heap.objs.size → s.heap.get? b = some o → h'.get? b = some o) → Q (.ref s.heap.objs.size) { s with heap := h', toks := tk }) :
    wpAny (model P w) A (call (.type "set") [.ref l]) Q E s := by
  obtain ⟨c, tl, g1⟩ := PySem.F.called_set.mro
  have g2 := PySem.F.called_set.made
  have g3 := PySem.F.called_set.sub
  refine wpAny_call (codeAny_of_tree (by
    show wpAny _ _ (callAny (.type "set") _) _ _ _
    refine wpAny_pure ⟨Code.quiet_builtin _ (by decide +kernel), codeAny_builtin PySem.F.entry_type_call ?_⟩
    rw [Around.under_plain (weight_type_call_type "set" [.ref l] []) rfl]
    have g4 := PySem.F.called_set.notType
    have g5 := PySem.F.called_set.canCreate
    have g6 := PySem.F.typeCall_set_1 (.ref l)
    walk_at "go"
    refine codeAny_mono (code_set_new_1 (.ref l) (E := E) (Q₁ := fun obj s1 => ∃ led : Bool, obj = .ref s.heap.objs.size ∧ s1 = { s with heap := s.heap.push (emptySet led) }) fun led => ⟨led, rfl, rfl⟩) fun r s1 hr => ?_
    cases r with
    | error e => exact hr
    | ok fl =>
      cases fl with
      | ret obj =>
        obtain ⟨led, rfl, rfl⟩ := hr
        have at0 : (s.heap.push (emptySet led)).get? s.heap.objs.size = some (emptySet led) := Heap.get?_push_size _ rfl
        have ty0 : Shared.TypeIs { s with heap := s.heap.push (emptySet led) } (.ref s.heap.objs.size) "set" := ⟨_, at0, rfl⟩
        have g7 := PySem.F.called_set.init.lookup
        have g8 := PySem.F.called_set.init.bind (.ref s.heap.objs.size)
        walk_at "go"
        refine codeAny_mono (codeAny_call_builtin (R := wants (fun r s2 => r = .none ∧ ∃ h' tk, s2 = { s with heap := h', toks := tk } ∧ h'.SetOf knd s.heap.objs.size (fun z => decide (z ∈ xs.take items.size)) (unl xs items.size) ∧ (∀ b o, b < s.heap.objs.size → s.heap.get? b = some o → h'.get? b = some o)) E)
          PySem.F.called_set.init.plain PySem.F.entry_set_init (check_set_init_1 ty0 ?_)) fun r2 s2 hr2 => ?_
        · obtain ⟨⟨cl, dd, dt, sl⟩, l1, l2, nl, l3⟩ := hl
          simp only at l2 l3
          subst l2 l3
          have l4 : (s.heap.push (emptySet led)).get? l = some { cls := .type "list", dict := dd, data := .seq items nl, slots := sl } := Heap.get?_push_of_some _ l1
          have n1 := PySem.F.sub_list_set
          have n2 := PySem.F.sub_list_frozenset
          have n3 : (Value.type "list" == Value.type "dict") = false := by decide
          have l5 : (s.heap.push (emptySet led)).IsList l items := ⟨_, l4, rfl, nl, rfl⟩
          unfold Builtin.«set.__init__» noKeywords Builtin.Frozenset.updateFrom; generalize hI : pyIter = it
          wp_walk
          subst hI
          refine wpAny_pyIter_list l5 (wpAny_bind (wpAny_runValue ?_))
          have lt : l < s.heap.objs.size := Heap.lt_size l1
          have c3 : A.in1.in1.in1.handled = none := by simp [calm]
          have sz : (s.heap.push (emptySet led)).objs.size = s.heap.objs.size + 1 := Heap.size_push ..
          have ne : l ≠ (s.heap.push (emptySet led)).objs.size := by
            rw [sz]
            exact Nat.ne_of_lt (Nat.lt_succ_of_lt lt)
          have out : s.heap.objs.size ∉ [(s.heap.push (emptySet led)).objs.size, l] := by
            rw [sz]
            simp only [List.mem_cons, List.not_mem_nil, or_false, not_or]
            exact ⟨Nat.ne_of_lt (Nat.lt_succ_self _), Nat.ne_of_gt lt⟩
          refine fill ((Walks.list c3 _ l ne items).toS) s.heap.objs.size out xs few hi (items.size - 0) 0 _ (by omega) (Nat.zero_le _) ⟨⟨_, Heap.get?_push_size _ rfl, rfl, rfl⟩, (l5.push _)⟩ ?_ ?_
          · have g : ((s.heap.push (emptySet led)).push { cls := .type "list_iterator", data := .fields #[.ref l, .int 0 0] }).get? s.heap.objs.size = some (emptySet led) := Heap.get?_push_of_some _ at0
            exact so_eq ((setObjOf_fresh (knd := knd) led).setOf g (by unfold scanBound; omega)) (fun z => by simp) rfl
          · rintro ⟨h', gg, dw, tk, os⟩ m R2
            obtain rfl : gg = s.gens := m.gens
            obtain rfl : dw = s.drawn := m.drawn
            obtain rfl : os = s.os := m.os
            show wpAny _ _ _ _ _ _
            refine wpAny_pure (wpAny_pure ⟨rfl, h', tk, rfl, R2, fun b o hb e => m.heap b o ?_ (Heap.get?_push_of_some _ (Heap.get?_push_of_some _ e))⟩)
            rw [sz]
            simp only [List.mem_cons, List.not_mem_nil, or_false, not_or]
            exact ⟨Nat.ne_of_lt hb, Nat.ne_of_lt (Nat.lt_succ_of_lt hb)⟩
        · cases r2 with
          | error e => exact hr2
          | ok fl2 =>
            cases fl2 with
            | ret r =>
              obtain ⟨rfl, h', tk, rfl, R2, keep⟩ := hr2
              walk_at "go"
              exact q _ _ R2 keep
            | _ => exact hr2.elim
      | _ => exact hr.elim))
theorem set_of_tuple {l : Addr} {items : Array Value} {xs : List κ} {Q : Value → Shared → Prop} (calm : A.handled = none) (hl : s.heap.IsTuple l items) (hn : xs.length = items.size) (few : items.size + 1 < scanBound)
    (hi : ∀ (i : Nat) (v : Value), items[i]? = some v → ∃ k, xs[i]? = some k ∧ knd.is k v = true ∧ v.scannable = true)
    (q : ∀ (h' : Heap) (tk : Nat), h'.SetOf knd s.heap.objs.size (fun z => decide (z ∈ xs.take items.size)) (unl xs items.size) → (∀ b o, b < s.heap.objs.size → s.heap.get? b = some o → h'.get? b = some o) → Q (.ref s.heap.objs.size) { s with heap := h', toks := tk }) :
    wpAny (model P w) A (call (.type "set") [.ref l]) Q E s := by
  obtain ⟨c, tl, g1⟩ := PySem.F.called_set.mro
  have g2 := PySem.F.called_set.made
  have g3 := PySem.F.called_set.sub
  refine wpAny_call (codeAny_of_tree (by
    show wpAny _ _ (callAny (.type "set") _) _ _ _
    refine wpAny_pure ⟨Code.quiet_builtin _ (by decide +kernel), codeAny_builtin PySem.F.entry_type_call ?_⟩
    rw [Around.under_plain (weight_type_call_type "set" [.ref l] []) rfl]
    have g4 := PySem.F.called_set.notType
    have g5 := PySem.F.called_set.canCreate
    have g6 := PySem.F.typeCall_set_1 (.ref l)
    walk_at "go"
    refine codeAny_mono (code_set_new_1 (.ref l) (E := E) (Q₁ := fun obj s1 => ∃ led : Bool, obj = .ref s.heap.objs.size ∧ s1 = { s with heap := s.heap.push (emptySet led) }) fun led => ⟨led, rfl, rfl⟩) fun r s1 hr => ?_
    cases r with
    | error e => exact hr
    | ok fl =>
      cases fl with
      | ret obj =>
        obtain ⟨led, rfl, rfl⟩ := hr
        have at0 : (s.heap.push (emptySet led)).get? s.heap.objs.size = some (emptySet led) := Heap.get?_push_size _ rfl
        have ty0 : Shared.TypeIs { s with heap := s.heap.push (emptySet led) } (.ref s.heap.objs.size) "set" := ⟨_, at0, rfl⟩
        have g7 := PySem.F.called_set.init.lookup
        have g8 := PySem.F.called_set.init.bind (.ref s.heap.objs.size)
        walk_at "go"
        refine codeAny_mono (codeAny_call_builtin (R := wants (fun r s2 => r = .none ∧ ∃ h' tk, s2 = { s with heap := h', toks := tk } ∧ h'.SetOf knd s.heap.objs.size (fun z => decide (z ∈ xs.take items.size)) (unl xs items.size) ∧ (∀ b o, b < s.heap.objs.size → s.heap.get? b = some o → h'.get? b = some o)) E)
          PySem.F.called_set.init.plain PySem.F.entry_set_init (check_set_init_1 ty0 ?_)) fun r2 s2 hr2 => ?_
        · obtain ⟨⟨cl, dd, dt, sl⟩, l1, l2, nl, l3⟩ := hl
          simp only at l2 l3
          subst l2 l3
          have l4 : (s.heap.push (emptySet led)).get? l = some { cls := .type "tuple", dict := dd, data := .seq items nl, slots := sl } := Heap.get?_push_of_some _ l1
          have n1 := PySem.F.sub_tuple_set
          have n2 := PySem.F.sub_tuple_frozenset
          have n3 : (Value.type "tuple" == Value.type "dict") = false := by decide
          have l5 : (s.heap.push (emptySet led)).IsTuple l items := ⟨_, l4, rfl, nl, rfl⟩
          unfold Builtin.«set.__init__» noKeywords Builtin.Frozenset.updateFrom; generalize hI : pyIter = it
          wp_walk
          subst hI
          refine wpAny_pyIter_tuple l5 (wpAny_bind (wpAny_runValue ?_))
          have lt : l < s.heap.objs.size := Heap.lt_size l1
          have c3 : A.in1.in1.in1.handled = none := by simp [calm]
          have sz : (s.heap.push (emptySet led)).objs.size = s.heap.objs.size + 1 := Heap.size_push ..
          have ne : l ≠ (s.heap.push (emptySet led)).objs.size := by
            rw [sz]
            exact Nat.ne_of_lt (Nat.lt_succ_of_lt lt)
          have out : s.heap.objs.size ∉ [(s.heap.push (emptySet led)).objs.size, l] := by
            rw [sz]
            simp only [List.mem_cons, List.not_mem_nil, or_false, not_or]
            exact ⟨Nat.ne_of_lt (Nat.lt_succ_self _), Nat.ne_of_gt lt⟩
          refine fill ((Walks.tuple c3 _ l ne items).toS) s.heap.objs.size out xs few hi (items.size - 0) 0 _ (by omega) (Nat.zero_le _) ⟨⟨_, Heap.get?_push_size _ rfl, rfl, rfl⟩, (l5.push _)⟩ ?_ ?_
          · have g : ((s.heap.push (emptySet led)).push { cls := .type "tuple_iterator", data := .fields #[.ref l, .int 0 0] }).get? s.heap.objs.size = some (emptySet led) := Heap.get?_push_of_some _ at0
            exact so_eq ((setObjOf_fresh (knd := knd) led).setOf g (by unfold scanBound; omega)) (fun z => by simp) rfl
          · rintro ⟨h', gg, dw, tk, os⟩ m R2
            obtain rfl : gg = s.gens := m.gens
            obtain rfl : dw = s.drawn := m.drawn
            obtain rfl : os = s.os := m.os
            show wpAny _ _ _ _ _ _
            refine wpAny_pure (wpAny_pure ⟨rfl, h', tk, rfl, R2, fun b o hb e => m.heap b o ?_ (Heap.get?_push_of_some _ (Heap.get?_push_of_some _ e))⟩)
            rw [sz]
            simp only [List.mem_cons, List.not_mem_nil, or_false, not_or]
            exact ⟨Nat.ne_of_lt hb, Nat.ne_of_lt (Nat.lt_succ_of_lt hb)⟩
        · cases r2 with
          | error e => exact hr2
          | ok fl2 =>
            cases fl2 with
            | ret r =>
              obtain ⟨rfl, h', tk, rfl, R2, keep⟩ := hr2
              walk_at "go"
              exact q _ _ R2 keep
            | _ => exact hr2.elim
      | _ => exact hr.elim))
end
theorem strs_in : ∀ {ys : List Str} {us : List Value}, Vals (ys.map V.str) us → us.length = ys.length ∧ ∀ (i : Nat) (v : Value), us[i]? = some v → ∃ k t, ys[i]? = some k ∧ v = .str k t
  | [], _, .nil => ⟨rfl, fun i v h => by simp at h⟩
  | y :: ys, _, .cons r t => by
    obtain ⟨k, rfl⟩ := r
    obtain ⟨h1, h2⟩ := strs_in t
    refine ⟨by simp [h1], fun i v h => ?_⟩
    cases i with
    | zero =>
      simp only [List.getElem?_cons_zero, Option.some.injEq] at h
      exact ⟨y, k, rfl, h.symm⟩
    | succ i =>
      simp only [List.getElem?_cons_succ] at h ⊢
      exact h2 i v h
/-- len(set(x)), x a row of texts -/
def tUnl (K : PySem.W.Frag) (ta : TE) : TE := fun σ H Q => ta σ H fun x H1 => ∃ l, ∃ xs : List Str, x = .ref l ∧ (SqL K H1 l (xs.map V.str) ∨ SqT K H1 l (xs.map V.str)) ∧ xs.length ≤ 4090 ∧ Q (.int (unl xs xs.length : Nat)) H1
section
variable {X : Cx}
theorem pe_unl {a : Expr} {ta : TE} {p p2 q pos : Pos} (hc : X.calm = true) (hm : X.mg "len" = none) (hm2 : X.mg "set" = none) (ha : PE X a ta) (hg : Gl X "len" := by rfl) (hg2 : Gl X "set" := by rfl)
    (na : starEach [a] X.env = (false, eval a X.env) :: starEach [] X.env := by rfl) : PE X (.Call (.Name "len" p) [.Call (.Name "set" p2) [a] [] q] [] pos) (tUnl X.K ta) := by
  refine ⟨fun pins s σ H Q I h => Call_ (ld_blt I hg hm boot_len (PyProof.Rows.callWith_builtin1 (PyProof.Rows.args_cons (Call_ (ld_blt I hg2 hm2 boot_set ?_)) rfl) rfl rfl))⟩
  refine PyProof.Rows.callWith_type1 (PyProof.Rows.args_cons (thn (ha.run pins s σ H _ I h) fun v s1 ⟨x, H1, I1, r1, q1⟩ => PyProof.Rows.args_nil ?_) na) na rfl
  obtain ⟨l, xs, rfl, hq, few, q1⟩ := q1
  cases r1
  have fin : ∀ (n : Nat), n = xs.length → ∀ (h' : Heap) (tk : Nat), h'.SetOf (PySem.strKind X.prog X.w) s1.heap.objs.size (fun z => decide (z ∈ xs.take n)) (unl xs n) → (∀ b o, b < s1.heap.objs.size → s1.heap.get? b = some o → h'.get? b = some o) →
      wpAny (model X.prog X.w) X.A (spliced (backTo pos (starEach [] X.env))) (fun vs s2 => wpAny (model X.prog X.w) X.A (call (.builtin "len") (Value.ref s1.heap.objs.size :: vs)) (EP X pins σ Q) X.xe s2) X.xe { s1 with heap := h', toks := tk } := fun n hn h' tk R keep => by
    subst hn
    refine PyProof.Rows.args_nil ?_
    obtain ⟨o, es, ep, t, g1, g2, g3, _, _, _, g4, g5⟩ := R
    have J : Inv X pins σ H1 { s1 with heap := h', toks := tk } := I1.kept fun b o e => keep b o (Heap.lt_size e) e
    have le := unl_le xs xs.length
    exact call_len_set g1 g2 g3 g4 (by rw [g5]; omega) ⟨.int (unl xs xs.length : Nat), H1, J.tok _, ⟨_, by rw [g5]⟩, q1⟩
  rcases hq with hq | hq
  · obtain ⟨its, r, pl, hz⟩ := I1.list hq
    obtain ⟨e1, e2⟩ := strs_in r
    have sz : its.toArray.size = xs.length := by rw [List.size_toArray, e1]
    refine set_of_list (knd := PySem.strKind X.prog X.w) (xs := xs) (I1.ok.hd hc) pl.isList sz.symm (by rw [sz]; unfold scanBound; omega) (fun i v hv => ?_) fun h' tk R keep => fin _ sz h' tk R keep
    obtain ⟨k, t, h1, rfl⟩ := e2 i v (by simpa using hv)
    exact ⟨k, h1, strKind_is _ _ _ _, rfl⟩
  · obtain ⟨its, r, pl, hz⟩ := I1.tuple hq
    obtain ⟨e1, e2⟩ := strs_in r
    have sz : its.toArray.size = xs.length := by rw [List.size_toArray, e1]
    refine set_of_tuple (knd := PySem.strKind X.prog X.w) (xs := xs) (I1.ok.hd hc) pl sz.symm (by rw [sz]; unfold scanBound; omega) (fun i v hv => ?_) fun h' tk R keep => fin _ sz h' tk R keep
    obtain ⟨k, t, h1, rfl⟩ := e2 i v (by simpa using hv)
    exact ⟨k, h1, strKind_is _ _ _ _, rfl⟩
end
end DL
/-! DLt -/
/-! DLt: the set of the ints that come of a row. -/
namespace DL
open PySem PySem.Spec PyProof.Rows L2
variable {F : Hp}
/-- ints at a, no order -/
def SG (P : Program) (w : World) (a : Addr) (S : Int → Bool) (n : Nat) : HO := .ext fun h => h.SetOf (intKind P w) a S n
theorem sg_ok {P : Program} {w : World} {H : Hp} {h : Heap} {a : Addr} {S : Int → Bool} {n : Nat} (R : h.SetOf (intKind P w) a S n) : ObjOk P w H h a (SG P w a S n) :=
  have ⟨o, _, _, _, g, _⟩ := R
  ⟨R, ⟨o, g⟩, fun _ _ p k => so_at p k⟩
section
variable {X : Cx}
theorem sg_add {pins : List (Addr × Obj)} {σ : L2.St} {H : Hp} {s : Shared} {E : Value → Shared → Prop} {D : Addr} {S : Int → Bool} {n : Nat} {y : Int} {t : Tok} {Q : Value → Shared → Prop} (I : Inv X pins σ H s) (at_ : H D = some (SG X.prog X.w D S n)) (few : n + 1 < scanBound)
    (q : ∀ s', Inv X pins σ (upd H D (SG X.prog X.w D (fun j => S j || decide (j = y)) (if S y = true then n else n + 1))) s' → Q .none s') : wpAny (model X.prog X.w) X.A (call (.builtin "set.add") [.ref D, .int y t]) Q E s := by
  have R : s.heap.SetOf (intKind X.prog X.w) D S n := (I.hok D _ at_).1
  refine call_set_add (intKind_is _ _ y t) rfl R few fun h' sb R2 => q _ ?_
  exact I.write (e := D) (t' := s.toks + 1) (by rw [at_]; trivial) (.inl rfl) (fun b u hb hu => (sb.2 b hb).trans hu) (let ⟨o, _, _, _, g, _⟩ := R2; ⟨o, g⟩) (sg_ok R2)
/-- {e for x in ..}: what follows, D the new set -/
def Turn (P : Program) (w : World) (D : Addr) (g : TG) (te : TE) (vs : List Nat) (σ : L2.St) (x : V) (H : Hp) (N : Hp → Prop) : Prop := g x (wipe σ vs) H fun σ2 H2 => wipe σ2 vs = wipe σ vs ∧ te σ2 H2 fun y H4 => ∃ (c : Int) (S : Int → Bool) (n : Nat), y = .int c ∧ H4 D = some (SG P w D S n) ∧ n + 1 < scanBound ∧ N (upd H4 D (SG P w D (fun j => S j || decide (j = c)) (if S c = true then n else n + 1)))
def tSg (P : Program) (w : World) (wi : TI) (g : TG) (te : TE) (vs : List Nat) : TE := fun σ H Q => wi σ H fun J H1 => ∀ D, H1 D = none → ∃ W : Nat → Nat → Hp → Prop, (∃ m, W 0 m (upd H1 D (SG P w D (fun _ => false) 0))) ∧
  ∀ i m H, W i m H → (J.stop i H ∧ Q (.ref D) H) ∨ (J.go i H ∧ ∃ N : Hp → Prop, (∀ H', N H' → ∃ m', m' < m ∧ W (i + 1) m' H') ∧ ∀ x H', J.yld i H x H' → Turn P w D g te vs σ x H' N)
theorem pe_sg {elt tg iter : Expr} {scope : Scope} {own : List (PySem.Str × Nat)} {pos : Pos} {wi : TI} {g : TG} {te : TE} (hc : X.calm = true) (nd : X.N.Nodup) (hi : PI X tg iter wi) (ok : BlkOk X.N X.env.scope scope own)
    (hg : ∀ (s : Shared) (H : Hp) (C : Addr) (cl : List (PySem.Str × Addr)) (fp : List Addr), PG (X.blk s H scope (compEnvC scope cl C X.env) fp) tg g)
    (he : ∀ (s : Shared) (H : Hp) (C : Addr) (cl : List (PySem.Str × Addr)) (fp : List Addr), PE (X.blk s H scope (compEnvC scope cl C X.env) fp) elt te) (hs : ∀ x, foldedSetIterable iter X.env x = pure x := by intro _; rfl) :
    PE X (.SetComp elt [⟨tg, iter, [], 0⟩] scope pos) (tSg X.prog X.w wi g te (own.map (·.2))) := by
  refine ⟨fun pins s σ H Q I want => ?_⟩
  rw [PpSet.eval_SetComp]
  have free : ∀ y ∈ scope.names, y.2 = .free → ∃ c, X.env.cells.lookup y.1 = some c := fun y hy e => (ok.free y hy e).elim (fun k => I.ok.has _ (.inl k)) fun k => I.ok.has _ (.inr k)
  refine wpAny_comprehension_free rfl hs (closure_ok free) ok.kind (fun y hy e => by rw [ok.uniq y hy, e]) (thn (hi.run pins s σ H _ I want) fun xv s1 h1 => thn h1 fun itv s2 h2 => ?_)
  obtain ⟨it, fp, tn, J, Ha, rfl, Ia, T, st, far, q⟩ := h2
  refine PpSet.newSet_ok (newEnv_comp ?_)
  generalize eD : s2.heap.objs.size = D
  have no : Ha D = none := Ia.hok.fresh (Nat.le_of_eq eD)
  obtain ⟨W, ⟨m0, w0⟩, turn⟩ := q D no
  generalize e3 : ({ s2 with heap := s2.heap.push { cls := .type "set", dict := none, data := .set #[] 0 (.fresh 0 0 (!X.w.params.followText "set-order")) } } : Shared) = s3
  have k3 : ∀ b o, s2.heap.get? b = some o → s3.heap.get? b = some o := fun b o e => by
    rw [← e3]
    exact Heap.get?_push_of_some _ e
  have z3 : s3.heap.objs.size = D + 1 := by
    rw [← e3, ← eD]
    exact Heap.size_push ..
  have Ib : Inv X pins σ (upd Ha D (SG X.prog X.w D (fun _ => false) 0)) s3 := by
    rw [← e3]
    refine Ia.laid (t' := s2.toks) (fun b o e => Heap.get?_push_of_some _ e) (Nat.le_of_eq eD) (sg_ok ?_)
    rw [← eD]
    exact (setObjOf_fresh (knd := intKind X.prog X.w) _).setOf (Heap.get?_push_size _ rfl) (by unfold scanBound; omega)
  generalize eB : upd Ha D (SG X.prog X.w D (fun _ => false) 0) = Hb at Ib w0
  have farB : ∀ b ∈ fp, FpOk X pins Hb b ∧ b < s3.heap.objs.size := fun b hb => by
    obtain ⟨o, e, _⟩ := T.obj _ _ st b hb
    have lt := Heap.lt_size e
    rw [eD] at lt
    refine ⟨⟨?_, (far b hb).2⟩, by rw [z3]; exact Nat.lt_succ_of_lt lt⟩
    rw [← eB, upd_ne (Nat.ne_of_lt lt)]
    exact (far b hb).1
  have stB : tn 0 s3.heap := T.keep _ _ _ st fun b _ o e => k3 b o e
  have Ic := block_start Ib ok nd farB
  have pg := hg s3 Hb s3.heap.objs.size (cellsFrom (s3.heap.objs.size + 1) scope.names (cloFrom X.env.cells scope.names [])) fp
  have pe := he s3 Hb s3.heap.objs.size (cellsFrom (s3.heap.objs.size + 1) scope.names (cloFrom X.env.cells scope.names [])) fp
  show codeAny _ _ (.compStart (.SetComp elt [⟨tg, iter, [], 0⟩] scope pos) 0 (.ref it) (.ref D) (compEnvC scope (cellsFrom (s3.heap.objs.size + 1) scope.names (cloFrom X.env.cells scope.names [])) s3.heap.objs.size X.env)) (compPost (model X.prog X.w) X.A X.xe none (EP X pins σ Q) (.ref D) s3.heap.objs.size)
    { s3 with heap := pushCells (s3.heap.push { cls := .type "dict", data := .dict #[] }) scope.names }
  generalize eC : compEnvC scope (cellsFrom (s3.heap.objs.size + 1) scope.names (cloFrom X.env.cells scope.names [])) s3.heap.objs.size X.env = ce at Ic pg pe ⊢
  have here : ce.locals = s3.heap.objs.size := by
    subst eC
    rfl
  generalize e4 : ({ s3 with heap := pushCells (s3.heap.push { cls := .type "dict", data := .dict #[] }) scope.names } : Shared) = s4 at Ic ⊢
  have st4 : tn 0 s4.heap := T.keep _ _ _ stB fun b _ o e => by
    rw [← e4]
    exact pushCells_keeps _ _ _ _ (Heap.get?_push_of_some _ e)
  have quiet : ∀ {σ' : L2.St} {H' : Hp} {s' : Shared}, Inv (X.blk s3 Hb scope ce fp) [] σ' H' s' → (∀ b ∈ fp, H' b = none) → ∀ b ∈ fp, FpOk (X.blk s3 Hb scope ce fp) [] H' b := fun {σ' H' s'} J nf b hb =>
    have x := J.ok.exf b hb
    ⟨nf b hb, x.1, J.ok.exfs b hb, .inl hb, fun y c e => x.2 y c e, fun p hp => absurd (show p ∈ ([] : List (Addr × Obj)) ++ [] from hp) (by simp)⟩
  have nfB : ∀ b ∈ fp, Hb b = none := fun b hb => (farB b hb).1.1
  generalize eV : own.map (·.2) = vs at turn Ic
  have loop : codeAny (model X.prog X.w) X.A (.compLoop (.SetComp elt [⟨tg, iter, [], 0⟩] scope pos) 0 (.ref it) (.ref D) ce) (compPost (model X.prog X.w) X.A X.xe none (EP X pins σ Q) (.ref D) s3.heap.objs.size) s4 := by
    refine PpSet.compLoopS_any (fun n s' => ∃ i H', Inv (X.blk s3 Hb scope ce fp) [] (wipe σ vs) H' s' ∧ tn i s'.heap ∧ (∀ b ∈ fp, H' b = none) ∧ W i n H') ?_ m0 ⟨0, Hb, Ic, st4, nfB, w0⟩
    rintro n s5 ⟨i, H5, I5, st5, nf5, w5⟩
    rcases turn i n H5 w5 with ⟨stop, qq⟩ | ⟨go, N, hN, step⟩
    · refine thnF (T.done (X.blk s3 Hb scope ce fp) rfl rfl rfl hc i [] s5 _ H5 (fun _ _ => False) I5 (quiet I5 nf5) st5 stop) fun r s6 ⟨hr, I6⟩ => ?_
      subst hr
      have I7 : Inv X pins σ H5 s6 := Ib.call' (ch := fp) I6.os I6.base I6.hok I6.bare fun b hb =>
        have ⟨f, _⟩ := farB b hb
        ⟨f.2.2.2.1, f.2.1, f.2.2.2.2.1, f.2.2.2.2.2⟩
      have nC : H5 s3.heap.objs.size = none := by
        rw [← here]
        exact I6.free
      obtain ⟨m, ns, _⟩ := I6.loc
      have ns : s6.heap.Ns ce.locals m := ns
      rw [here] at ns
      obtain ⟨f0, f1, f2, f3, f4, f5⟩ := Ib.fpOk (Nat.le_refl _) nC
      exact ⟨m, ns, fun h2 sb => ⟨.ref D, H5, I7.turned (t' := s6.toks) (fun b o hb e => (sb.2 b hb).trans e) f0 f1 f3 f4 f5, rfl, qq⟩⟩
    · refine thnF (T.item (X.blk s3 Hb scope ce fp) rfl rfl rfl hc i [] s5 _ H5 (fun _ _ => False) I5 (quiet I5 nf5) st5 go) fun r s6 ⟨u, hr, h6⟩ => ?_
      subst hr
      refine thnF h6 fun _ s7 ⟨x, H7, I7, r7, y7, st7, nf7⟩ => ?_
      refine thnF (pg.run _ s7 _ H7 x u _ (I7.pinned (quiet I7 nf7) (T.obj _ _ st7)) r7 (step x H7 y7)) fun _ s8 ⟨σ8, H8, I8, same, q8⟩ => ?_
      refine wpAny_pure ?_
      rw [if_pos rfl]
      refine thnF (pe.run _ s8 σ8 H8 _ I8 q8) fun z s9 ⟨yv, H9, I9, r9, c, S0, n0, ey, atD, few, nx⟩ => ?_
      subst ey
      obtain ⟨t, rfl⟩ := r9
      refine sg_add (X := X.blk s3 Hb scope ce fp) I9 atD few fun s10 I10 => ?_
      obtain ⟨m', lt, w'⟩ := hN _ nx
      have pinned : ∀ b ∈ fp, ∀ o, s7.heap.get? b = some o → s10.heap.get? b = some o ∧ _ := fun b hb o e =>
        have z := I10.pin (b, o) (List.mem_append_right _ (List.mem_append_right _ (mem_pinsAt hb e)))
        And.intro z.1 z.2.1
      have len : (wipe σ vs).length = σ8.length := by rw [← same, wipe_length]
      refine ⟨m', lt, i + 1, _, (I10.unpinned (pins := [])).weak len (fun j v e => ?_), T.keep _ _ _ st7 fun b hb o e => (pinned b hb o e).1, fun b hb => ?_, w'⟩
      · rw [← same] at e
        exact (wipe_some e).1
      · obtain ⟨o, e, _⟩ := T.obj _ _ st7 b hb
        exact (pinned b hb o e).2
  exact PpSet.codeAny_compStart_set loop (T.self X.A 0 _ _ _ st4 loop)
/-- len of it -/
def tLenSg (P : Program) (w : World) (t : TE) : TE := fun σ H Q => t σ H fun x H1 => ∃ D S n, x = .ref D ∧ H1 D = some (SG P w D S n) ∧ n < scanBound ∧ Q (.int (n : Nat)) H1
theorem pe_lenSg {e : Expr} {t : TE} {p pos : Pos} (hm : X.mg "len" = none) (he : PE X e t) (hg : Gl X "len" := by rfl) (na : starEach [e] X.env = (false, eval e X.env) :: starEach [] X.env := by rfl) : PE X (.Call (.Name "len" p) [e] [] pos) (tLenSg X.prog X.w t) := by
  refine ⟨fun pins s σ H Q I h => Call_ (ld_blt I hg hm boot_len (PyProof.Rows.callWith_builtin1 (PyProof.Rows.args_cons (thn (he.run pins s σ H _ I h) fun v s1 ⟨x, H1, I1, r1, q1⟩ => ?_) na) na rfl))⟩
  obtain ⟨D, S, n, rfl, at_, few, q1⟩ := q1
  cases r1
  obtain ⟨o, es, ep, t, g1, g2, g3, _, _, _, g4, g5⟩ := (I1.hok D _ at_).1
  refine PyProof.Rows.args_nil (call_len_set g1 g2 g3 g4 (by rw [g5]; unfold scanBound at few; omega) ⟨.int (n : Nat), H1, I1.tok _, ⟨_, by rw [g5]⟩, q1⟩)
end
theorem unl_app {κ : Type} [DecidableEq κ] {xs zs : List κ} : ∀ {i : Nat}, i ≤ xs.length → unl (xs ++ zs) i = unl xs i
  | 0, _ => rfl
  | i + 1, h => by
    have ih := unl_app (zs := zs) (show i ≤ xs.length by omega)
    unfold unl
    rw [List.getElem?_append_left (by omega), List.take_append_of_le_length (by omega), ih]
theorem unl_snoc {κ : Type} [DecidableEq κ] {xs : List κ} {y : κ} : unl (xs ++ [y]) (xs ++ [y]).length = if decide (y ∈ xs) = true then unl xs xs.length else unl xs xs.length + 1 := by
  rw [List.length_append, List.length_singleton]
  have e1 : (xs ++ [y])[xs.length]? = some y := by simp
  have e2 : unl (xs ++ [y]) xs.length = unl xs xs.length := unl_app (Nat.le_refl _)
  show (match (xs ++ [y])[xs.length]? with
    | some x => if decide (x ∈ (xs ++ [y]).take xs.length) = true then unl (xs ++ [y]) xs.length else unl (xs ++ [y]) xs.length + 1
    | none => unl (xs ++ [y]) xs.length) = _
  rw [e1, e2, List.take_left]
abbrev SL (P : Program) (w : World) (D : Addr) (acc : List Int) : HO := SG P w D (fun z => decide (z ∈ acc)) (unl acc acc.length)
theorem sl_snoc {P : Program} {w : World} {D : Addr} {acc : List Int} {y : Int} : SG P w D (fun j => decide (j ∈ acc) || decide (j = y)) (if decide (y ∈ acc) = true then unl acc acc.length else unl acc acc.length + 1) = SL P w D (acc ++ [y]) := by
  unfold SL
  rw [unl_snoc]
  congr 1
  funext z
  simp [List.mem_append]
/-- len({e for ..}) of ints -/
def mLenSc (s : MA) (g : MG) (m : ME) (vs : List Nat) : ME := fun ρ S => (s ρ S).bind fun p => if p.1.length ≤ 1000 then (lcL g mYes m (wipeD ρ vs) p.1 p.2).bind fun q => (intsOf q.1).map fun ns => (.int (unl ns ns.length : Nat), q.2) else none
variable {K : PySem.W.Frag} {P : Program} {w : World}
theorem sc_weak {s : MA} {g : MG} {ts : List Nat} {m : ME} {vs : List Nat} (hts : ∀ i ∈ ts, i ∈ vs) : ∀ σ H Q, tD K (mLenSc s g m vs) σ H Q → tLenSg P w (tSg P w (tDI K s) (tDG K g ts) (tD K m) vs) σ H Q := by
  rintro σ H Q ⟨F, μ, G, S, ρ, d, S', r, re, e, k⟩
  obtain ⟨⟨ds, S1⟩, e1, e⟩ := bindS e
  obtain ⟨hl, e⟩ := ifo e
  have hl : ds.length ≤ 1000 := hl
  refine ⟨F, μ, G, S, ρ, ds, S1, r, re, e1, fun μ1 G1 H1 p1 x1 q1 J it => ?_⟩
  obtain ⟨⟨rs, S2⟩, e2, e⟩ := bindS e
  obtain ⟨ns, e3, e⟩ := map_some e
  cases e
  intro D hD
  have hF : F D = none := q1.frm.back hD
  have hM : D ∉ μ1 := fun z => q1.trk D z hD
  refine ⟨fun i n H => ∃ μ G S acc rs ms S', Rel K (upd F D (SL P w D acc)) μ S H G ∧ REnv K μ G (L2.wipe σ vs) (wipeD ρ vs) ∧ i + n = ds.length ∧ ItD K J μ G ds ∧ lcL g mYes m (wipeD ρ vs) (ds.drop i) S = some (rs, S') ∧ intsOf rs = some ms ∧ acc.length ≤ i ∧
      Aft K F μ G S' (fun μ' G' H' => ∀ v, Rp K μ' G' v (.int (unl (acc ++ ms) (acc ++ ms).length : Nat)) → Q v H'),
    ⟨ds.length, μ1, G1, S1, [], rs, ns, _, q1.frame (q1.sub.back hD) hM hF, (re.mono p1 x1).wipe vs, Nat.zero_add _, it, e2, e3, Nat.le_refl _, k.mono p1 x1⟩, ?_⟩
  rintro i n H2 ⟨μ2, G2, S3, acc, rs2, ms, S4, q2, re2, hi, it2, e4, e5, hal, k2⟩
  obtain ⟨igo, istop⟩ := it2 _ μ2 G2 S3 H2 (Pf.refl _) (Ex.refl _) q2
  by_cases hlt : i < ds.length
  · have hd : ds[i]? = some ds[i] := List.getElem?_eq_getElem hlt
    rw [List.drop_eq_getElem_cons hlt] at e4
    unfold lcL at e4
    obtain ⟨ρ3, e6, e4⟩ := bindS e4
    obtain ⟨⟨b0, S5⟩, e60, e4⟩ := bindS e4
    cases e60
    rw [if_pos rfl] at e4
    obtain ⟨⟨y, S6⟩, e7, e4⟩ := bindS e4
    obtain ⟨⟨zs, S7⟩, e8, e4⟩ := map_some e4
    cases e4
    obtain ⟨c, ms', rfl, e9, rfl⟩ : ∃ c ms', y = .int c ∧ intsOf zs = some ms' ∧ ms = c :: ms' := by
      have e5 : intsOf (y :: zs) = some ms := e5
      cases y with
      | int c =>
        obtain ⟨ms', h1, h2⟩ := map_some (show (intsOf zs).map (c :: ·) = some ms from e5)
        exact ⟨c, ms', rfl, h1, h2.symm⟩
      | _ => cases e5
    obtain ⟨g1, g2⟩ := igo i _ hd
    refine .inr ⟨g1, fun H => ∃ n', n' < n ∧ ∃ μ G S acc rs ms S', Rel K (upd F D (SL P w D acc)) μ S H G ∧ REnv K μ G (L2.wipe σ vs) (wipeD ρ vs) ∧ i + 1 + n' = ds.length ∧ ItD K J μ G ds ∧ lcL g mYes m (wipeD ρ vs) (ds.drop (i + 1)) S = some (rs, S') ∧ intsOf rs = some ms ∧ acc.length ≤ i + 1 ∧
      Aft K F μ G S' (fun μ' G' H' => ∀ v, Rp K μ' G' v (.int (unl (acc ++ ms) (acc ++ ms).length : Nat)) → Q v H'), fun H' h => h, fun x H3 hy => ?_⟩
    obtain ⟨G3, x3, q3, r3⟩ := g2 x H3 hy
    have re3 := re2.mono (Pf.refl _) x3
    refine ⟨_, μ2, G3, S3, _, _, ρ3, q3, re3, r3, e6, fun σ4 re4 w4 => ⟨(w4 vs hts).trans (wipe_idem vs), _, μ2, G3, S3, ρ3, _, S6, q3, re4, e7, fun μ6 G6 H6 p6 x6 q6 v6 r6 => ?_⟩⟩
    cases r6
    have le := unl_le acc acc.length
    refine ⟨c, _, _, rfl, q6.frm D _ upd_same, by unfold scanBound; omega, n - 1, by omega, μ6, G6, S6, acc ++ [c], zs, ms', S7, ?_, (re3.mono p6 x6), by omega, (it2.mono (Pf.refl μ2) x3).mono p6 x6, e8, e9, by rw [List.length_append, List.length_singleton]; omega, ?_⟩
    · rw [sl_snoc]
      exact q6.reframe hF
    · rw [List.append_assoc]
      exact (k2.mono (Pf.refl μ2) x3).mono p6 x6
  · have hi' : i = ds.length := by omega
    subst hi'
    rw [List.drop_length] at e4
    cases e4
    cases e5
    have le := unl_le acc acc.length
    refine .inl ⟨istop, D, _, _, rfl, q2.frm D _ upd_same, by unfold scanBound; omega, ?_⟩
    rw [List.append_nil] at k2
    exact k2 μ2 G2 H2 (Pf.refl _) (Ex.refl _) (q2.unframe hF) _ (.int _)
section
variable {X : Cx} {pos p : Pos}
theorem d_lenSc {elt tg iter : Expr} {scope : Scope} {own : List (Str × Nat)} {s : MA} {g : MG} {ts : List Nat} {m : ME} {p2 : Pos} (hm : X.mg "len" = none) (hc : X.calm = true) (hN : X.N.Nodup) (hi : PI X tg iter (tDI X.K s)) (ok : BlkOk X.N X.env.scope scope own) (hts : ∀ i ∈ ts, i ∈ own.map (·.2))
    (hg : ∀ (s : Shared) (H : Hp) (C : Addr) (cl : List (Str × Addr)) (fp : List Addr), PG (X.blk s H scope (compEnvC scope cl C X.env) fp) tg (tDG X.K g ts))
    (he : ∀ (s : Shared) (H : Hp) (C : Addr) (cl : List (Str × Addr)) (fp : List Addr), PE (X.blk s H scope (compEnvC scope cl C X.env) fp) elt (tD X.K m)) (hs : ∀ x, foldedSetIterable iter X.env x = pure x := by intro _; rfl) (hgl : Gl X "len" := by rfl)
    (na : starEach [.SetComp elt [⟨tg, iter, [], 0⟩] scope p2] X.env = (false, eval (.SetComp elt [⟨tg, iter, [], 0⟩] scope p2) X.env) :: starEach [] X.env := by rfl) :
    PE X (.Call (.Name "len" p) [.SetComp elt [⟨tg, iter, [], 0⟩] scope p2] [] pos) (tD X.K (mLenSc s g m (own.map (·.2)))) := (pe_lenSg hm (pe_sg hc hN hi ok hg he hs) hgl na).weak (sc_weak hts)
/-- len(set(x)) -/
def mLenSet (m : ME) : ME := fun ρ S => (m ρ S).bind fun p => match seqOf p.1 with
  | some ds => match strsOf ds with
    | some ys => if ys.length ≤ 4090 then some (.int (unl ys ys.length : Nat), p.2) else none
    | none => none
  | none => none
theorem d_lenSet {a : Expr} {m : ME} {p2 q : Pos} (hc : X.calm = true) (hm : X.mg "len" = none) (hm2 : X.mg "set" = none) (h : PE X a (tD X.K m)) (hg : Gl X "len" := by rfl) (hg2 : Gl X "set" := by rfl)
    (na : starEach [a] X.env = (false, eval a X.env) :: starEach [] X.env := by rfl) : PE X (.Call (.Name "len" p) [.Call (.Name "set" p2) [a] [] q] [] pos) (tD X.K (mLenSet m)) :=
  (pe_unl hc hm hm2 h hg hg2 na).weak fun σ H Q ⟨F, μ, G, S, ρ, d, S', r, re, e, k⟩ => by
    obtain ⟨⟨d1, S1⟩, e1, e⟩ := bindS e
    simp only at e
    cases e2 : seqOf d1 with
    | none =>
      rw [e2] at e
      cases e
    | some ds =>
      rw [e2] at e
      simp only at e
      cases e3 : strsOf ds with
      | none =>
        rw [e3] at e
        cases e
      | some ys =>
        rw [e3] at e
        obtain ⟨few, e⟩ := ifs e
        cases e
        refine ⟨F, μ, G, S, ρ, d1, _, r, re, e1, fun μ1 G1 H1 p1 x1 q1 v1 r1 => ?_⟩
        obtain ⟨l, vs, rfl, hs, ra⟩ := seqOf_sq q1.sub r1 e2
        obtain rfl := strs_V ra e3
        exact ⟨l, ys, rfl, hs, few, k μ1 G1 H1 p1 x1 q1 _ (.int _)⟩
end
end DL
/-! DLv -/
/-! DLv: isinstance of several kinds; a list that changes and another one, together. -/
namespace DL
open PySem PySem.Spec PyProof.Rows L2
variable {F : Hp}
def mIsM (Ts : List String) (m : ME) : ME := fun ρ S => (m ρ S).bind fun p => (tyOf p.1 p.2).map fun t => (.bl (Ts.any fun T => isA T t), p.2)
theorem any_kit {K : PySem.W.Frag} {t : String} (ht : t ∈ ["NoneType", "bool", "int", "str", "tuple", "list", "dict"]) : ∀ Ts : List String, (∀ T ∈ Ts, tyOk T = true) → PySem.W.kitAny K (.type t) (Ts.map Value.type) = some (Ts.any fun T => isA T t)
  | [], _ => rfl
  | T :: Ts, h => by
    have h1 : kitB t T = some (isA T t) := eq_of_beq (List.all_eq_true.mp (h T (List.mem_cons_self ..)) t ht)
    rw [List.map_cons, List.any_cons]
    refine kitAny_cons (kit_ty h1) (fun e => ?_) fun e => ?_
    · rw [e, Bool.false_or]
      exact any_kit ht Ts fun T hT => h T (List.mem_cons_of_mem _ hT)
    · rw [e, Bool.true_or]
section
variable {X : Cx} {pos p : Pos}
theorem d_ism3 {T1 T2 T3 : String} {x y1 y2 y3 : Str} {e : Expr} {m : ME} {q1 q2 q3 tp : Pos} {k : Nat} (h1 : tyOk T1 = true) (h2 : tyOk T2 = true) (h3 : tyOk T3 = true) (hm : X.mg x = none) (m1 : X.mg y1 = none) (m2 : X.mg y2 = none) (m3 : X.mg y3 = none) (he : PE X e (tD X.K m))
    (hx : bootBuiltins x = some (.builtin "isinstance") := by decide +kernel) (b1 : bootBuiltins y1 = some (.type T1) := by decide +kernel) (b2 : bootBuiltins y2 = some (.type T2) := by decide +kernel) (b3 : bootBuiltins y3 = some (.type T3) := by decide +kernel)
    (g0 : Gl X x := by rfl) (g1 : Gl X y1 := by rfl) (g2 : Gl X y2 := by rfl) (g3 : Gl X y3 := by rfl)
    (n0 : x ≠ "__name__" := by decide) (d0 : (x == ("__debug__" : Str)) = false := by decide) (n1 : y1 ≠ "__name__" := by decide) (d1 : (y1 == ("__debug__" : Str)) = false := by decide) (n2 : y2 ≠ "__name__" := by decide) (d2 : (y2 == ("__debug__" : Str)) = false := by decide) (n3 : y3 ≠ "__name__" := by decide) (d3 : (y3 == ("__debug__" : Str)) = false := by decide)
    (s1 : starEach [e, .Tuple [.Name y1 q1, .Name y2 q2, .Name y3 q3] k tp] X.env = (false, eval e X.env) :: starEach [.Tuple [.Name y1 q1, .Name y2 q2, .Name y3 q3] k tp] X.env := by rfl)
    (s2 : starEach [.Tuple [.Name y1 q1, .Name y2 q2, .Name y3 q3] k tp] X.env = (false, eval (.Tuple [.Name y1 q1, .Name y2 q2, .Name y3 q3] k tp) X.env) :: starEach [] X.env := by rfl)
    (s3 : starEach [.Name y1 q1, .Name y2 q2, .Name y3 q3] X.env = (false, eval (.Name y1 q1) X.env) :: starEach [.Name y2 q2, .Name y3 q3] X.env := by rfl) (s4 : starEach [.Name y2 q2, .Name y3 q3] X.env = (false, eval (.Name y2 q2) X.env) :: starEach [.Name y3 q3] X.env := by rfl) (s5 : starEach [.Name y3 q3] X.env = (false, eval (.Name y3 q3) X.env) :: starEach [] X.env := by rfl)
    (hpl : (backTo pos (starEach [.Tuple [.Name y1 q1, .Name y2 q2, .Name y3 q3] k tp] X.env)).any (·.1) = false := by rfl) :
    PE X (.Call (.Name x p) [e, .Tuple [.Name y1 q1, .Name y2 q2, .Name y3 q3] k tp] [] pos) (tD X.K (mIsM [T1, T2, T3] m)) :=
  (pe_callB call_isiT g0 hm hx (pa_cons he (pa_cons (pe_tup (pa_cons (pe_bltn (v := .ty T1) g1 m1 b1 rfl n1 d1) (pa_cons (pe_bltn (v := .ty T2) g2 m2 b2 rfl n2 d2) (pa_cons (pe_bltn (v := .ty T3) g3 m3 b3 rfl n3 d3) pa_nil s5) s4) s3)) pa_nil s2) s1) n0 d0 s1 hpl).weak fun σ H Q ⟨F, μ, G, S, ρ, d, S', r, re, e, kk⟩ => by
    obtain ⟨⟨dd, S1⟩, e1, e⟩ := bindS e
    obtain ⟨t, e2, e⟩ := map_some e
    cases e
    refine ⟨F, μ, G, S, ρ, dd, _, r, re, e1, fun μ1 G1 H1 p1 x1 q1 v1 r1 => ?_⟩
    refine ⟨(show 3 ≤ sizeLine by rw [sizeLine_eq]; decide), fun a ha => ?_⟩
    have q2 := q1.fresh (o := .tup [.ty T1, .ty T2, .ty T3]) ha
    have x2 : Ex G1 (upd G1 a (.tup [.ty T1, .ty T2, .ty T3])) := Ex.new (q1.sub.back ha)
    obtain ⟨g1, g2⟩ := tyX_of q2 (r1.mono (Pf.refl _) x2) e2
    refine ⟨v1, a, _, _, [.type T1, .type T2, .type T3], [T1, T2, T3].any fun T => isA T t, rfl, upd_same, .cons (.ty _) (.cons (.ty _) (.cons (.ty _) .nil)), g1, any_kit g2 [T1, T2, T3] ?_, ?_⟩
    · simp only [List.forall_mem_cons]
      exact ⟨h1, h2, h3, fun _ h => nomatch h⟩
    · exact kk _ _ _ p1 (x1.trans x2) q2 _ (.bl _)
/-! ### xs + ys of a list that changes: a new one that changes -/
def rowOf (d : D) (S : Sto) : Option (List D) := match d with
  | .lst xs => some xs
  | .loc n => match S[n]? with
    | some (some c) => some c
    | _ => none
  | _ => none
def mCatC (m n : ME) : ME := fun ρ S => (m ρ S).bind fun p => (n ρ p.2).bind fun q => match rowOf p.1 q.2, rowOf q.1 q.2 with
  | some xs, some ys => if xs.length + ys.length ≤ 1000000 then some (.loc q.2.length, q.2 ++ [some (xs ++ ys)]) else none
  | _, _ => none
theorem rowOf_at {K : PySem.W.Frag} {μ : List Addr} {S : Sto} {H G : Hp} {v : V} {d : D} {xs : List D} (r : Rel K F μ S H G) (r1 : Rp K μ G v d) (h : rowOf d S = some xs) : ∃ a vs, v = .ref a ∧ H a = some (.lst vs) ∧ RpA K μ G vs xs := by
  cases r1 with
  | lst h1 h2 => cases h; exact ⟨_, _, rfl, r.sub _ _ h1, h2⟩
  | @loc a n hm =>
    unfold rowOf at h
    simp only at h
    split at h
    · rename_i c hc
      cases h
      obtain ⟨b, vs, g1, g2, g3, g4⟩ := r.cell n _ hc
      rw [hm] at g1
      cases g1
      exact ⟨_, vs, rfl, g2, g3⟩
    · cases h
  | _ => cases h
theorem d_catC {a b : Expr} {m1 m2 : ME} (h1 : PE X a (tD X.K m1)) (h2 : PE X b (tD X.K m2)) : PE X (.BinOp a .Add b pos) (tD X.K (mCatC m1 m2)) :=
  (pe_op op_cat h1 h2).weak fun σ H Q ⟨F, μ, G, S, ρ, d, S', r, re, e, kk⟩ => by
    obtain ⟨⟨d1, S1⟩, e1, e⟩ := bindS e
    obtain ⟨⟨d2, S2⟩, e2, e⟩ := bindS e
    simp only at e
    split at e
    · rename_i xs ys hx hy
      obtain ⟨hl, e⟩ := ifs e
      cases e
      refine ⟨F, μ, G, S, ρ, d1, S1, r, re, e1, fun μ1 G1 H1 p1 x1 q1 v1 r1 => ⟨F, μ1, G1, S1, ρ, d2, S2, q1, re.mono p1 x1, e2, fun μ2 G2 H2 p2 x2 q2 v2 r2 => ?_⟩⟩
      obtain ⟨a1, vs1, rfl, g1, ra1⟩ := rowOf_at q2 (r1.mono p2 x2) hx
      obtain ⟨a2, vs2, rfl, g2, ra2⟩ := rowOf_at q2 r2 hy
      refine ⟨a1, a2, vs1, vs2, rfl, rfl, g1, g2, by rw [ra1.len, ra2.len]; exact sz6 hl, fun p hp => ?_⟩
      refine kk (μ2 ++ [p]) G2 _ ((p1.trans p2).trans ⟨[p], rfl⟩) (x1.trans x2) (q2.cellNew hp (ra1.app ra2)) _ (.loc ?_)
      have hq : μ2.length = S2.length := q2.len
      rw [← hq, List.getElem?_append_right (Nat.le_refl _), Nat.sub_self]
      rfl
    · cases e
end
end DL
/-! DLw -/
/-! DLw: a tuple a great many times. -/
namespace DL
open PySem PySem.Spec PyProof.Rows L2
variable {F : Hp}
section
variable {X : Cx}
/-- x * k, at least twice, at most a million parts -/
def rBig (K : PySem.W.Frag) : R2 := fun x y H Q => ∃ l k xs, x = .ref l ∧ y = .int k ∧ SqT K H l xs ∧ xs ≠ [] ∧ 2 ≤ k ∧ xs.length * k.toNat ≤ 1000000 ∧ ∀ p, H p = none → Q (.ref p) (upd H p (.tup (List.replicate k.toNat xs).flatten))
theorem op_big : OpR X (binaryOp .Mult) (rBig X.K) := by
  intro pins s σ H x y v u Q I rx ry h
  obtain ⟨l, k, xs, rfl, rfl, hT, ne, k2, big, q⟩ := h
  cases rx
  obtain ⟨t, rfl⟩ := ry
  obtain ⟨its, r, ⟨⟨cl, dd, dt, sl⟩, at_, hc, n, hd⟩, hs⟩ := I.tuple hT
  simp only at hc hd
  subst hc hd
  have len : its.length = xs.length := r.length.symm
  have pos : 1 ≤ its.length := by
    rw [len]
    cases xs with
    | nil => exact absurd rfl ne
    | cons a b => simp
  have emp : its.toArray.isEmpty = false := by
    cases its with
    | nil => simp at pos
    | cons a b => rfl
  obtain ⟨m, rfl⟩ := Int.eq_ofNat_of_zero_le (show 0 ≤ k by omega)
  have e1 : ((m : Nat) : Int).toNat = m := by omega
  rw [e1] at big q
  have hm : m ≤ 1000000 := by
    rw [← len] at big
    exact Nat.le_trans (Nat.le_mul_of_pos_left m pos) big
  have prod : ((its.toArray.size : Nat) : Int) * (m : Int) ≤ 1000000 := by
    rw [List.size_toArray, len, ← Int.natCast_mul]
    omega
  have flat : (List.replicate ((m : Nat) : Int).toNat its).flatten.length ≤ 1000000 := by
    rw [e1, PyProof.Rows.lm_len_rep_flat, len, Nat.mul_comm]
    exact big
  have z : (1000000 : Nat) ≤ sizeLine := by
    rw [sizeLine_eq]
    decide
  have a0 : (decide ((m : Int) < -(2 ^ 63)) || decide ((m : Int) ≥ 2 ^ 63)) = false := by rw [decide_eq_false (by omega), decide_eq_false (by omega)]; rfl
  have a1 : (its.toArray.isEmpty || ((m : Int) == 1)) = false := by rw [emp, Bool.false_or]; exact beq_eq_false_iff_ne.mpr (by omega)
  have a2 : (decide ((m : Int) ≤ 0) || its.toArray.isEmpty) = false := by rw [emp, Bool.or_false]; exact decide_eq_false (by omega)
  have a3 : Builtin.Tuple.tupleTooMany (((its.toArray.size : Nat) : Int) * (m : Int)) = false := by
    unfold Builtin.Tuple.tupleTooMany
    rw [sizeLine_eq]
    exact decide_eq_false (by omega)
  have ty : s.TypeIs (.ref l) "tuple" := ⟨_, at_, rfl⟩
  refine wpAny_binaryOp_repeat_ref (T := "tuple") (U := "int") (by decide) ty (fun s' => typeIs_int s' _ t) noFill_tuple_mul F.fills_int_mul F.slot_int_rmul repeat_tuple F.slot_int_index.lookup (call_meets F.slot_int_rmul (typeIs_int s _ t) F.entry_int_rmul (F.args_int_rmul_2 _ _) (int_rmul_tuple _ t l its.toArray n dd sl) ⟨at_, rfl, ty, ?_⟩)
  refine call_meets F.slot_tuple_mul ty F.entry_tuple_mul (F.args_tuple_mul_2 _ _) (tuple_mulW l its.toArray n dd sl _ t a0 a1 a2 (by omega) a3 (by rw [size_rep, List.size_toArray]; omega)) ⟨at_, ?_⟩
  rw [size_rep]
  refine ⟨.ref s.heap.objs.size, _, I.laid (t' := s.toks) (o := .tup (List.replicate m xs).flatten) (fun b ob g => Heap.get?_push_of_some _ g) (Nat.le_refl _) ⟨?_, _, r.rep m, ?_⟩, rfl, q _ (I.hok.fresh (Nat.le_refl _))⟩
  · rw [PyProof.Rows.lm_len_rep_flat, Nat.mul_comm]
    omega
  · rw [e1]
    exact IsTup.new _ _
end
def fBig : MOp
  | .tup xs, .int j, S => if xs.isEmpty = false ∧ 2 ≤ j ∧ xs.length * j.toNat ≤ 1000000 then some (.tup (List.replicate j.toNat xs).flatten, S) else none
  | _, _, _ => none
theorem f_big {K : PySem.W.Frag} : OpD K (rBig K) fBig := by
  intro F μ G S H x y d e z S' Q r r1 r2 hf a
  cases d with
  | tup xs =>
    cases e with
    | int j =>
      obtain ⟨⟨h1, h2, h3⟩, hz⟩ := ifs hf
      cases hz
      cases r2
      cases r1 with
      | tup g1 g2 =>
        refine ⟨_, j, _, rfl, rfl, r.sub.st g1, ?_, h2, by rw [g2.len]; exact h3, fun p hp => tD_new a r hp (.tup (SqT.of upd_same) ((g2.rep j.toNat).mono (Pf.refl _) (Ex.new (r.sub.back hp))))⟩
        rintro rfl
        have := g2.len
        cases xs with
        | nil => cases h1
        | cons _ _ => simp at this
    | _ => cases hf
  | _ => cases hf
end DL
/-! DLu -/
/-! DLu: enumerate(x) of a row of data: of a tuple, of a list that nobody changes. -/
namespace DL
open PySem PySem.Spec PyProof.Rows L2
/-! ### the object enumerate(t) of a tuple t -/
theorem enum_made {v : Value} {ob : Obj} {Hh : Heap → Prop} (B : Begins v ob Hh) :
    Meets (Builtin.«enumerate.__new__» ⟨[.type "enumerate", v], []⟩) (fun _ R s => Hh s.heap ∧ R (.ok (.ret (.ref (s.heap.push ob).objs.size))) { s with heap := (s.heap.push ob).push ⟨.type "enumerate", none, .fields #[.none, .bool false, .ref s.heap.objs.size, rawInt 0, .none, .none], #[]⟩ }) :=
  .of_wp fun prog w A R st pre => by
    obtain ⟨hp, gn, dr, tk, ops⟩ := st
    obtain ⟨g1, g2⟩ := pre
    have sub := sub_enumerate
    have go : ∀ {A2 : Around} {E2 Q2 : Value → Shared → Prop}, Q2 (.ref hp.objs.size) ⟨hp.push ob, gn, dr, tk, ops⟩ → wpAny (model prog w) A2 (pyIter v) Q2 E2 ⟨hp, gn, dr, tk, ops⟩ := fun r => B.iter prog w _ _ ⟨hp, gn, dr, tk, ops⟩ _ g1 r
    wp_walk using go
    refine wpAny_stack_any fun stk => wpAny_pure ?_
    split
    · rename_i cl _ _ _ _ _
      cases (cl == Value.type "enumerate") <;> (wp_walk using go; exact ⟨_, rfl, g2⟩)
    · wp_walk using go
      exact ⟨_, rfl, g2⟩
theorem enum_called {prog : Program} {w : World} {A : Around} {E : Value → Shared → Prop} {st : Shared} {v : Value} {ob : Obj} {Hh : Heap → Prop} {Q : Value → Shared → Prop} (B : Begins v ob Hh) (pre : Hh st.heap)
    (k : ∀ hp, IsEnum hp (st.heap.objs.size + 1) st.heap.objs.size 0 .none → hp.get? st.heap.objs.size = some ob → (∀ b o, st.heap.get? b = some o → hp.get? b = some o) → Q (.ref (st.heap.objs.size + 1)) { st with heap := hp }) :
    wpAny (model prog w) A (call (.type "enumerate") [v]) Q E st := by
  refine callType_new F.called_enumerate (by decide) (F.typeCall_enumerate_1 _) (F.newCall_enumerate_1 _) (fun y => F.args_object_init_2 y _) F.entry_enumerate_new (enum_made B) ⟨pre, ?_⟩
  have sz : (st.heap.push ob).objs.size = st.heap.objs.size + 1 := Heap.size_push ..
  show _ ∧ _
  rw [sz]
  have en : IsEnum ((st.heap.push ob).push ⟨.type "enumerate", none, .fields #[.none, .bool false, .ref st.heap.objs.size, rawInt 0, .none, .none], #[]⟩) (st.heap.objs.size + 1) st.heap.objs.size 0 .none := by
    have q := Heap.get?_push_size (st.heap.push ob) (o := ⟨.type "enumerate", none, .fields #[.none, .bool false, .ref st.heap.objs.size, rawInt 0, .none, .none], #[]⟩) rfl
    rwa [sz] at q
  exact ⟨⟨_, en, rfl⟩, k _ en (Heap.get?_push_of_some _ (Heap.get?_push_size _ B.free)) fun b o x => Heap.get?_push_of_some _ (Heap.get?_push_of_some _ x)⟩
/-- the tuple at a, each item in a new pair with its number -/
def Itq (K : PySem.W.Frag) (a : Addr) : It :=
  ⟨fun j G => ∃ (ys : List V) (y : V), SqT K G a ys ∧ ys[j]? = some y, fun j G v G' => ∃ P y, v = .ref P ∧ G P = none ∧ G' = upd G P (.tup [.int (j : Nat), y]) ∧ ∀ ys, SqT K G a ys → ys[j]? = some y, fun j G => ∃ ys : List V, SqT K G a ys ∧ ys.length = j⟩
structure EnAt (a e it : Addr) (j : Nat) (g : Heap) : Prop where
  en : ∃ old, IsEnum g e it ((j : Nat) : Int) old
  at_ : g.IsTupleIter it a j
  n1 : e ≠ it
  n2 : e ≠ a
  n3 : a ≠ it
theorem turn_enq {P : Program} {w : World} {K : PySem.W.Frag} {els : List Expr} {kk : Nat} {tp : Pos} (a e it : Addr) : L2.Turn P w K (Expr.Tuple els kk tp) (Itq K a) [e, it] e (EnAt a e it) where
  mem := List.mem_cons_self ..
  obj := fun j g st b hb => by
    obtain ⟨old, he⟩ := st.en
    obtain ⟨o, ho, hc, hd⟩ := st.at_
    rcases List.mem_cons.mp hb with rfl | hb
    · exact ⟨_, he, fun v z => nomatch z⟩
    · rw [List.mem_singleton] at hb
      subst hb
      exact ⟨o, ho, fun v z => by rw [hd] at z; cases z⟩
  keep := fun j g g' st k => ⟨st.en.imp fun old he => k e (List.mem_cons_self ..) _ he, st.at_.at fun o z => k it (by simp) o z, st.n1, st.n2, st.n3⟩
  item := by
    intro X hP hw hK hc j pins s σ H E I hf st hg
    subst hP hw hK
    obtain ⟨ys, y, hq, hy⟩ := hg
    obtain ⟨old, he⟩ := st.en
    obtain ⟨vs, rv, p, hz⟩ := I.tuple hq
    obtain ⟨u, hu, ru⟩ := rv.get hy
    have le : e < s.heap.objs.size := Heap.lt_size he
    have li : it < s.heap.objs.size := by
      obtain ⟨_, q, _⟩ := st.at_
      exact Heap.lt_size q
    have hj : j < vs.toArray.size := by
      rw [List.size_toArray]
      exact (List.getElem?_eq_some_iff.mp hu).1
    have nf : e ∉ [it, a] := by
      simp only [List.mem_cons, List.not_mem_nil, or_false, not_or]
      exact ⟨st.n1, st.n2⟩
    refine wpAny_pyNext_enum_itemD (Draws.tuple (A := X.A.in1) (show X.A.in1.handled = none from I.ok.hd hc) it a st.n3 vs.toArray) he ⟨st.at_, (show s.heap.IsTuple a vs.toArray from p)⟩ hj st.n1 nf fun x1 h1 tk hx ho hs hT _ hk => ?_
    have ex : x1 = u := by
      rw [List.getElem?_toArray, hu] at hx
      exact (Option.some.inj hx).symm
    subst ex
    refine ⟨_, rfl, wpAny_letOwnedTupleGo_enum (s := { s with heap := h1, toks := tk + 1 }) ho fun h2 he2 sb => ?_⟩
    have hT2 : h2.get? s.heap.objs.size = some { cls := .type "tuple", data := .seq #[.int j tk, x1] } := (sb.2 _ (Nat.ne_of_gt le)).trans hT
    have ok2 : ObjOk X.prog X.w (upd H s.heap.objs.size (.tup [.int (j : Nat), y])) h2 s.heap.objs.size (.tup [.int (j : Nat), y]) := ⟨(by decide : 2 ≤ sizeLine), [.int j tk, x1], .cons ⟨_, rfl⟩ (.cons ru .nil), _, hT2, rfl, _, rfl⟩
    have I2 : Inv X pins σ (upd H s.heap.objs.size (.tup [.int (j : Nat), y])) { s with heap := h2, toks := tk + 1 } := I.turnedNew (ch := [e, it]) (fun b ob nb q => (sb.2 b fun z => nb (z ▸ List.mem_cons_self ..)).trans (hk b ob (fun z => nb (z ▸ List.mem_cons_self ..)) (fun z => nb (by rw [z]; simp)) q)) hf (Nat.le_refl _) ok2
    refine ⟨.ref s.heap.objs.size, _, I2, rfl, ⟨_, y, rfl, I.hok.fresh (Nat.le_refl _), rfl, fun zs hzs => by rw [I.tuple_inj hzs hq]; exact hy⟩, ⟨⟨x1, ?_⟩, hs.1.at fun o q => (sb.2 it st.n1.symm).trans q, st.n1, st.n2, st.n3⟩, fun b hb => ?_⟩
    · rw [show ((j + 1 : Nat) : Int) = (j : Int) + 1 from rfl]
      exact he2
    · have lb : b < s.heap.objs.size := by
        rcases List.mem_cons.mp hb with rfl | hb
        · exact le
        · rw [List.mem_singleton.mp hb]
          exact li
      rw [upd_ne (Nat.ne_of_lt lb)]
      exact (hf b hb).1
  done := by
    intro X hP hw hK hc j pins s σ H E I hf st hg
    subst hP hw hK
    obtain ⟨ys, hq, hy⟩ := hg
    obtain ⟨old, he⟩ := st.en
    obtain ⟨vs, rv, p, hz⟩ := I.tuple hq
    have hl := rv.length
    obtain ⟨f0, f1, f2, f3, f4, f5⟩ := hf it (by simp)
    have ej : j = vs.toArray.size := by
      rw [List.size_toArray]
      omega
    refine wpAny_pyNext_enum_endD (Draws.tuple (A := X.A.in1) (show X.A.in1.handled = none from I.ok.hd hc) it a st.n3 vs.toArray) he ⟨ej ▸ st.at_, (show s.heap.IsTuple a vs.toArray from p)⟩ fun h1 eb => ⟨rfl, I.turned (t' := s.toks) (fun b o nb q => eb b o nb q) f0 f1 f3 f4 f5⟩
  self := fun A j s Q E st h => let ⟨_, he⟩ := st.en; wpAny_pyIter_enum he h
/-- what it is told by -/
def iEnq (K : PySem.W.Frag) (ta : TA) : TI := fun σ G R => ta σ G fun vs G1 => ∃ a ys, vs = [.ref a] ∧ SqT K G1 a ys ∧ R (Itq K a) G1
theorem pi_enq {X : Cx} {e : Expr} {ta : TA} {p pos tp : Pos} {els : List Expr} {kk : Nat} (hm : X.mg "enumerate" = none) (ha : PA X [e] ta) (hg : Gl X "enumerate" := by rfl) (hs : starEach [e] X.env = [(false, eval e X.env)] := by rfl) :
    PI X (Expr.Tuple els kk tp) (.Call (.Name "enumerate" p) [e] [] pos) (iEnq X.K ta) := by
  refine ⟨fun pins s σ H R I h => Call_ (ld_blt I hg hm boot_enumerate (PyProof.Rows.callWith_type1 (thn (ha.run pos pins s σ H _ I h) fun us s1 ⟨vs, H1, I1, r1, a, ys, ev, hq, q⟩ => ?_) hs rfl))⟩
  subst ev
  cases r1 with
  | cons r rr =>
    cases rr
    cases r
    obtain ⟨its, rv, p2, hz⟩ := I1.tuple hq
    have la : a < s1.heap.objs.size := by
      obtain ⟨_, q, _⟩ := (show s1.heap.IsTuple a its.toArray from p2)
      exact Heap.lt_size q
    refine enum_called (begins_tuple a its.toArray) (show s1.heap.IsTuple a its.toArray from p2) fun hp en hi hk => wpAny_pyIter_enum en ?_
    have I2 : Inv X pins σ H1 { s1 with heap := hp } := I1.kept (t' := s1.toks) hk
    refine ⟨s1.heap.objs.size + 1, [s1.heap.objs.size + 1, s1.heap.objs.size], _, _, H1, rfl, I2, turn_enq a (s1.heap.objs.size + 1) s1.heap.objs.size, ⟨⟨.none, en⟩, ⟨_, hi, rfl, rfl⟩, Nat.succ_ne_self _, Nat.ne_of_gt (Nat.lt_succ_of_lt la), Nat.ne_of_lt la⟩, fun b hb => ?_, q⟩
    have hle : s1.heap.objs.size ≤ b := by
      rcases List.mem_cons.mp hb with rfl | hb
      · exact Nat.le_succ _
      · rw [List.mem_singleton.mp hb]
        exact Nat.le_refl _
    exact I1.fpOk hle (I1.hok.fresh hle)
/-! ### as data -/
def numb : Nat → List D → List D
  | _, [] => []
  | j, d :: ds => .tup [.int (j : Nat), d] :: numb (j + 1) ds
theorem numb_len : ∀ (ds : List D) (j : Nat), (numb j ds).length = ds.length
  | [], _ => rfl
  | d :: ds, j => by
    unfold numb
    rw [List.length_cons, List.length_cons, numb_len ds]
theorem numb_get : ∀ (ds : List D) (j i : Nat), (numb j ds)[i]? = (ds[i]?).map fun d => D.tup [.int ((j + i : Nat) : Int), d]
  | [], _, _ => by simp [numb]
  | d :: ds, j, 0 => by simp [numb]
  | d :: ds, j, i + 1 => by
    unfold numb
    rw [List.getElem?_cons_succ, List.getElem?_cons_succ, numb_get ds]
    have e : j + 1 + i = j + (i + 1) := by omega
    rw [e]
def mEn (m : ME) : MA := fun ρ S => (m ρ S).bind fun p => match p.1 with
  | .tup xs => some (numb 0 xs, p.2)
  | .lst xs => some (numb 0 xs, p.2)
  | _ => none
theorem itD_enq {K : PySem.W.Frag} {μ : List Addr} {G : Hp} {a : Addr} {xs : List V} {ds : List D} (h : SqT K G a xs) (r : RpA K μ G xs ds) : ItD K (Itq K a) μ G (numb 0 ds) := fun F μ' G' S' H' p e q => by
  have hs : SqT K H' a xs := q.sub.st (e.st h)
  refine ⟨fun i d hd => ?_, xs, hs, by rw [numb_len, r.len]⟩
  rw [numb_get] at hd
  obtain ⟨d0, h0, rfl⟩ := map_some hd
  obtain ⟨v, h1, h2⟩ := r.get h0
  refine ⟨⟨xs, v, hs, h1⟩, fun x H'' y => ?_⟩
  obtain ⟨P, w, rfl, hP, rfl, hw⟩ := y
  have ew : w = v := Option.some.inj ((hw xs hs).symm.trans h1)
  subst ew
  have ex : Ex G' (upd G' P (.tup [.int (i : Nat), w])) := Ex.new (q.sub.back hP)
  refine ⟨_, ex, q.fresh hP, ?_⟩
  rw [Nat.zero_add]
  exact .tup (SqT.of upd_same) (.cons (.int _) (.cons ((h2.mono p e).mono (Pf.refl _) ex) .nil))
theorem itD_ene {K : PySem.W.Frag} {μ : List Addr} {G : Hp} {a : Addr} {xs : List V} {ds : List D} (h : SqL K G a xs) (r : RpA K μ G xs ds) : ItD K (Ite K a) μ G (numb 0 ds) := fun F μ' G' S' H' p e q => by
  have hs : SqL K H' a xs := q.sub.sl (e.sl h)
  refine ⟨fun i d hd => ?_, xs, hs, by rw [numb_len, r.len]; exact Nat.le_refl _⟩
  rw [numb_get] at hd
  obtain ⟨d0, h0, rfl⟩ := map_some hd
  obtain ⟨v, h1, h2⟩ := r.get h0
  refine ⟨⟨xs, v, hs, h1⟩, fun x H'' y => ?_⟩
  obtain ⟨P, w, rfl, hP, rfl, hw⟩ := y
  have ew : w = v := Option.some.inj ((hw xs hs).symm.trans h1)
  subst ew
  have ex : Ex G' (upd G' P (.tup [.int (i : Nat), w])) := Ex.new (q.sub.back hP)
  refine ⟨_, ex, q.fresh hP, ?_⟩
  rw [Nat.zero_add]
  exact .tup (SqT.of upd_same) (.cons (.int _) (.cons ((h2.mono p e).mono (Pf.refl _) ex) .nil))
theorem i_en {X : Cx} {e : Expr} {m : ME} {p pos tp : Pos} {els : List Expr} {kk : Nat} (hm : X.mg "enumerate" = none) (h : PE X e (tD X.K m)) (hg : Gl X "enumerate" := by rfl) (hs : starEach [e] X.env = [(false, eval e X.env)] := by rfl) (he : starEach [e] X.env = (false, eval e X.env) :: starEach [] X.env := by rfl) :
    PI X (Expr.Tuple els kk tp) (.Call (.Name "enumerate" p) [e] [] pos) (tDI X.K (mEn m)) :=
  (PI.or (pi_enq hm (a_cons h a_nil he) hg hs) (pi_enum hg hm (a_cons h a_nil he) hs)).weak fun σ H R ⟨F, μ, G, S, ρ, ds, S', r, re, e, k⟩ => by
    obtain ⟨⟨d1, S1⟩, e1, e⟩ := bindS e
    cases d1 with
    | tup xs =>
      cases e
      refine .inl ⟨F, μ, G, S, ρ, [.tup xs], S1, r, re, by simp [mCons, mNil, e1], fun μ1 G1 H1 p1 x1 q1 v1 r1 => ?_⟩
      cases r1 with
      | cons r1 rr =>
        cases rr
        cases r1 with
        | tup h1 h2 => exact ⟨_, _, rfl, q1.sub.st h1, k μ1 G1 H1 p1 x1 q1 _ (itD_enq h1 h2)⟩
    | lst xs =>
      cases e
      refine .inr ⟨F, μ, G, S, ρ, [.lst xs], S1, r, re, by simp [mCons, mNil, e1], fun μ1 G1 H1 p1 x1 q1 v1 r1 => ?_⟩
      cases r1 with
      | cons r1 rr =>
        cases rr
        cases r1 with
        | lst h1 h2 => exact ⟨_, _, rfl, SqL.of (q1.sub _ _ h1), k μ1 G1 H1 p1 x1 q1 _ (itD_ene (SqL.of h1) h2)⟩
    | _ => cases e
/-! ### what is no text is in no row of texts; a list beside an empty one -/
section
variable {X : Cx}
/-- a dict, a row at a: unequal to each text -/
def NoTxt (K : PySem.W.Frag) (H : Hp) (a : Addr) : Prop := (∃ kvs, H a = some (.dK kvs)) ∨ RowAt K H a
def rNinS (K : PySem.W.Frag) : R2 := fun x y H Q => ∃ a b ws, x = .ref a ∧ NoTxt K H a ∧ y = .ref b ∧ (SqL K H b ws ∨ SqT K H b ws) ∧ (∀ v ∈ ws, ∃ z, v = .str z) ∧ Q (.bl true) H
theorem op_ninS (hu : X.A.units + 65 < cLine) : OpR X (compareOp .NotIn) (rNinS X.K) := by
  intro pins s σ H x y v u Q I rx ry h
  obtain ⟨a, b, ws, rfl, hH, rfl, hs, hw, q⟩ := h
  cases rx
  cases ry
  have off : ∀ z t, SeqAt.EqAt X.A.in1 s (.str z t) (.ref a) false := fun z t => by
    rcases hH with ⟨kvs, hd⟩ | hr
    · obtain ⟨_, _, vs, kv, o, es, ep, ho, hx, hd, _⟩ := dk_of I.hok hd
      exact eq_str_dict z t ho hx hd (by show X.A.units + 1 < cLine; omega)
    · exact (row_str I hr z t (by show X.A.units + 1 < cLine; omega)).2.2
  have each : ∀ its : List Value, Vals ws its → ∀ y, y ∈ its.toArray → SeqAt.EqAt X.A.in1 s y (.ref a) ((fun _ => false) y) := fun its r y hy => by
    obtain ⟨z, t, rfl⟩ := vals_strs r hw y (by simpa using hy)
    exact off z t
  have fin : ∀ its : List Value, EP X pins σ Q (.bool (!its.toArray.any fun _ => false)) s := fun its => by
    rw [show (its.toArray.any fun _ => false) = false by simp]
    exact ⟨.bl true, H, I, rfl, q⟩
  rcases hs with hs | hs
  · obtain ⟨its, rv, pl, _⟩ := I.list hs
    exact SeqAt.notIn_listAt _ pl.isList (each its rv) (fin its)
  · obtain ⟨its, rv, ⟨o2, g1, g2, n2, g3⟩, _⟩ := I.tuple hs
    exact SeqAt.notIn_tupleAt _ ⟨o2, g1, g2, n2, g3⟩ (each its rv) (fin its)
/-- two lists, the second one empty -/
def rLE (K : PySem.W.Frag) (neg : Bool) : R2 := fun x y H Q => ∃ a b xs, x = .ref a ∧ y = .ref b ∧ SqL K H a xs ∧ SqL K H b [] ∧ Q (.bl (if neg then !xs.isEmpty else xs.isEmpty)) H
theorem lst_eq {pins : List (Addr × Obj)} {σ : L2.St} {H : Hp} {s : Shared} {a b : Addr} {xs : List V} {A : Around} (I : Inv X pins σ H s) (h1 : SqL X.K H a xs) (h2 : SqL X.K H b []) (hu : A.units < cLine) : SeqAt.RcAt A s (.ref a) (.ref b) xs.isEmpty ∧ SeqAt.RcNeAt A s (.ref a) (.ref b) (!xs.isEmpty) := by
  obtain ⟨its, r1, p1, _⟩ := I.list h1
  obtain ⟨it2, r2, p2, _⟩ := I.list h2
  cases r2
  cases r1 with
  | nil =>
    have q1 := SeqAt.RcAt.lists (e := fun _ => true) p1.isList p2.isList rfl hu (fun j g1 _ => absurd g1 (by simp))
    have q2 := SeqAt.RcNeAt.lists (e := fun _ => true) p1.isList p2.isList rfl hu (fun j g1 _ => absurd g1 (by simp))
    exact ⟨q1, q2⟩
  | cons r rr =>
    exact ⟨SeqAt.RcAt.lists_lengths p1.isList p2.isList (by simp) hu, SeqAt.RcNeAt.lists_lengths p1.isList p2.isList (by simp) hu⟩
theorem op_eqLE (hu : X.A.units < cLine) : OpR X (compareOp .Eq) (rLE X.K false) := by
  intro pins s σ H x y v u Q I rx ry h
  obtain ⟨a, b, xs, rfl, rfl, h1, h2, q⟩ := h
  cases rx
  cases ry
  exact (lst_eq I h1 h2 hu).1 X.prog X.w _ _ ⟨.bl _, H, I, rfl, q⟩
theorem op_neLE (hu : X.A.units < cLine) : OpR X (compareOp .NotEq) (rLE X.K true) := by
  intro pins s σ H x y v u Q I rx ry h
  obtain ⟨a, b, xs, rfl, rfl, h1, h2, q⟩ := h
  cases rx
  cases ry
  exact (lst_eq I h1 h2 hu).2 X.prog X.w _ _ ⟨.bl _, H, I, rfl, q⟩
end
def fLE (neg : Bool) : MOp
  | .lst xs, .lst [], S => some (.bl (if neg then !xs.isEmpty else xs.isEmpty), S)
  | _, _, _ => none
theorem f_le {K : PySem.W.Frag} {neg : Bool} : OpD K (rLE K neg) (fLE neg) := by
  intro F μ G S H x y d e z S' Q r r1 r2 hf a
  cases d <;> first | (cases hf; done) | skip
  rename_i xs
  cases e <;> first | (cases hf; done) | skip
  rename_i ys
  cases ys with
  | cons _ _ => cases hf
  | nil =>
    cases hf
    cases r1 with
    | lst g1 g2 =>
      cases r2 with
      | lst g3 g4 =>
        cases g4
        refine ⟨_, _, _, rfl, rfl, SqL.of (r.sub _ _ g1), SqL.of (r.sub _ _ g3), ?_⟩
        have e : ∀ {vs : List V} {ds : List D}, RpA K μ G vs ds → vs.isEmpty = ds.isEmpty := fun h => by cases h <;> rfl
        rw [e g2]
        exact tD_now a r (.bl _)
def fNin2 : MOp := fun d e S => if d.isDct = true ∨ d.isRow = true then (match seqOf e with
  | some ys => if ys.all D.isStr = true then some (.bl true, S) else none
  | none => none) else fIn true d e S
theorem f_nin2 {K : PySem.W.Frag} : OpD K (fun x y H Q => rNinS K x y H Q ∨ rNinD' K x y H Q) fNin2 := by
  intro F μ G S H x y d e z S' Q r r1 r2 hf a
  unfold fNin2 at hf
  split at hf
  · rename_i hd
    split at hf
    · rename_i ys he
      obtain ⟨h2, hz⟩ := ifs hf
      cases hz
      obtain ⟨p, vs, rfl, hp, ha⟩ := seqOf_sq r.sub r2 he
      refine .inl ?_
      rcases hd with hd | hd
      · cases d <;> first | (cases hd; done) | skip
        cases r1 with
        | dct g1 g2 g3 => exact ⟨_, _, vs, rfl, .inl ⟨_, r.sub _ _ g1⟩, rfl, hp, isStrs_V ha h2, tD_now a r (.bl _)⟩
      · obtain ⟨q, rfl, hq⟩ := isRow_at r.sub r1 hd
        exact ⟨_, _, vs, rfl, .inr hq, rfl, hp, isStrs_V ha h2, tD_now a r (.bl _)⟩
    · cases hf
  · exact .inr (f_nin F μ G S H x y d e z S' Q r r1 r2 hf a)
theorem o_nin2 {X : Cx} (hu : X.A.units + 65 < cLine) : OpR X (compareOp .NotIn) (fun x y H Q => rNinS X.K x y H Q ∨ rNinD' X.K x y H Q) := (op_ninS hu).or (o_nin hu)
end DL
/-! DLx -/
/-! DLx: a dict that a def fills row by row and does not give away; x.insert, x.pop(i), two items of a list exchanged; a dict of the module asked with a word for what is not there. -/
namespace DL
open PySem PySem.Spec PyProof.Rows L2
variable {F : Hp}
section
variable {X : Cx} {K : PySem.W.Frag} {pos apos : Pos} {o e f : Expr} {m n : ME}
/-! ### what follows a dict under work: its keys, its values -/
abbrev MOw := List Key → List D → MS
def tDOw (K : PySem.W.Frag) (i : Nat) (m : MOw) : TS := fun E σ H => ∃ F μ G S ρ fl S' a ks xs ds, F a = none ∧ Rel K (upd F a (.dK (ks.zip xs))) μ S H G ∧ REnv K μ G σ ρ ∧ σ[i]? = some (some (.ref a)) ∧ RpA K μ G xs ds ∧ ks.length = xs.length ∧ m ks ds ρ S = some (fl, S') ∧ Aft K F μ G S' (FlE K E fl)
/-- the dict is under i from here on -/
def sNewD (i : Nat) (ks : List Key) (m : MA) (mo : MOw) : MS := fun ρ S => (m ρ S).bind fun p => if p.1.length = ks.length ∧ i < ρ.length then mo ks p.1 (ρ.set i none) p.2 else none
/-- the value at a key, put otherwise -/
def putVals {α : Type} (k : Key) (d : α) : List Key → List α → List α
  | k' :: ks, d' :: ds => (if decide (k' = k) = true then d else d') :: putVals k d ks ds
  | _, ds => ds
def hasK (k : Key) (ks : List Key) : Bool := ks.any fun q => decide (q = k)
def oPut2 (k : Key) (m : ME) (mo : MOw) : MOw := fun ks ds ρ S => (m ρ S).bind fun p => if ks.length < 100 then (if hasK k ks = true then mo ks (putVals k p.1 ks ds) ρ p.2 else mo (ks ++ [k]) (ds ++ [p.1]) ρ p.2) else none
theorem putVals_len {α : Type} {k : Key} {d : α} : ∀ {ks : List Key} {ds : List α}, (putVals k d ks ds).length = ds.length
  | [], ds => by cases ds <;> rfl
  | _ :: ks, [] => rfl
  | _ :: ks, _ :: ds => by
    simp only [putVals, List.length_cons]
    rw [putVals_len]
theorem RpA.put {μ : List Addr} {G : Hp} {k : Key} {v : V} {d : D} (h : Rp K μ G v d) : ∀ {ks : List Key} {xs : List V} {ds : List D}, RpA K μ G xs ds → RpA K μ G (putVals k v ks xs) (putVals k d ks ds)
  | [], _, _, r => by cases r <;> first | exact .nil | exact .cons (by assumption) (by assumption)
  | _ :: ks, _, _, .nil => .nil
  | q :: ks, _, _, .cons r rr => by
    simp only [putVals]
    refine .cons ?_ (RpA.put h rr)
    split
    · exact h
    · exact r
theorem zip_map {k : Key} {v : V} : ∀ {ks : List Key} {xs : List V}, (ks.zip xs).map (fun kv => if kv.1 = k then (kv.1, v) else kv) = ks.zip (putVals k v ks xs)
  | [], xs => by cases xs <;> rfl
  | _ :: ks, [] => rfl
  | q :: ks, x :: xs => by
    simp only [List.zip_cons_cons, List.map_cons, putVals]
    rw [zip_map]
    by_cases h : q = k <;> simp [h]
theorem any_zip {k : Key} : ∀ {ks : List Key} {xs : List V}, ks.length = xs.length → ((ks.zip xs).any fun kv => decide (kv.1 = k)) = hasK k ks
  | [], _, _ => rfl
  | _ :: _, [], h => by simp at h
  | q :: ks, x :: xs, h => by
    simp only [List.zip_cons_cons, List.any_cons, hasK]
    rw [any_zip (by simpa using h)]
    rfl
def oSet (j : Nat) (m : ME) (mo : MOw) : MOw := fun ks ds ρ S => (m ρ S).bind fun p => mo ks ds (ρ.set j (some p.1)) p.2
def oGet (m n : ME) : MOw := fun ks ds ρ S => (m ρ S).bind fun q => (n ρ q.2).bind fun t => (keyOf q.1).map fun k => (.rt ((dGet ks ds k).getD t.1), t.2)
def oIx (m : ME) : MOw := fun ks ds ρ S => (m ρ S).bind fun q => (keyOf q.1).bind fun k => (dGet ks ds k).map fun d => (.rt d, q.2)
theorem REnv.drop {μ : List Addr} {G : Hp} {σ : L2.St} {ρ : Env'} {v : V} (r : REnv K μ G σ ρ) (i : Nat) : REnv K μ G (σ.set i (some v)) (ρ.set i none) := by
  refine ⟨by rw [List.length_set, List.length_set, r.len], fun j e q => ?_⟩
  by_cases hj : i = j
  · subst hj
    by_cases hi : i < ρ.length
    · rw [List.getElem?_set_self hi] at q
      cases q
    · rw [List.getElem?_eq_none (by rw [List.length_set]; omega)] at q
      cases q
  · rw [List.getElem?_set_ne hj] at q
    obtain ⟨w, h1, h2⟩ := r.at' j e q
    exact ⟨w, by rw [List.getElem?_set_ne hj]; exact h1, h2⟩
section
variable {i j : Nat} {x y : Str} {st : Stmt} {rest : List Stmt} {mo : MOw} {p1 p2 p3 : Pos}
theorem ow_get (hu : X.A.units + 1 < cLine) (he : PE X e (tD X.K m)) (hf : PE X f (tD X.K n)) (hN : X.N[i]? = some x := by rfl) (hv : Vis X.env.scope x := by first | exact Or.inl rfl | exact Or.inr (Or.inl rfl) | exact Or.inr (Or.inr rfl)) (hd : (x == ("__debug__" : Str)) = false := by decide)
    (hcd : (x == ("__classdict__" : Str)) = false := by decide) (hbase : attributeBase (.Name x p1) "get" X.env (eval (.Name x p1) X.env) = eval (.Name x p1) X.env := by rfl)
    (hfew : ((backTo pos (starEach [e, f] X.env)).all (fun x => !x.1) && (backToKw pos (keywordEach [] X.env)).all (fun x => x.1.isSome)
      && decide (([e, f] : List Expr).length + ([] : List Keyword).length + (if ([] : List Keyword).isEmpty then 0 else 1) < 30)) = true := by rfl)
    (hline : (apos.endLine == pos.line) = true := by rfl) (htr : backTo pos (starEach [e, f] X.env) = [(false, eval e X.env), (false, eval f X.env)] := by rfl) :
    PSs X [.Return (some (.Call (.Attribute (.Name x p1) "get" apos) [e, f] [] pos)) p2] (tDOw X.K i (oGet m n)) :=
  (pss_one (ps_ret (pe_dget2 hu (pe_var hN hv hd hcd) he hf ⟨hbase, hfew, hline, htr⟩))).weak fun E σ H ⟨F, μ, G, S, ρ, fl, S', a, ks, xs, ds, hF, r, re, hi, rx, hl, ev, k⟩ => by
    obtain ⟨⟨d1, S1⟩, e1, ev⟩ := bindS ev
    obtain ⟨⟨d2, S2⟩, e2, ev⟩ := bindS ev
    obtain ⟨kk, hk, ev⟩ := map_some ev
    cases ev
    simp only at e2 hk
    refine ⟨_, hi, a, rfl, .inl ⟨_, .inl (r.frm a _ upd_same)⟩, _, μ, G, S, ρ, d1, S1, r, re, e1, fun μ1 G1 H1 p1 x1 q1 v1 r1 => ?_⟩
    refine ⟨_, μ1, G1, S1, ρ, d2, _, q1, re.mono p1 x1, e2, fun μ2 G2 H2 p2 x2 q2 v2 r2 => ?_⟩
    have hv := keyOf_V (r1.mono p2 x2) hk
    have hg := dGet_V (k := kk) (ks := ks) (rx.mono (p1.trans p2) (x1.trans x2))
    refine ⟨valV (ks.zip xs) kk, .inl ⟨_, kk, .inl (q2.frm a _ upd_same), hv, rfl⟩, ?_⟩
    have fin := k μ2 G2 H2 (p1.trans p2) (x1.trans x2) (q2.unframe hF)
    cases hq : dGet ks ds kk with
    | some d =>
      rw [hq] at hg fin
      obtain ⟨v, g1, g2⟩ := hg
      rw [g1]
      exact fin _ g2
    | none =>
      rw [hq] at hg fin
      rw [hg]
      exact fin _ r2
theorem ow_ix (hu : X.A.units + 1 < cLine) (he : PE X e (tD X.K m)) (hs : NoSl e := by exact fun _ _ => rfl) (hN : X.N[i]? = some x := by rfl) (hv : Vis X.env.scope x := by first | exact Or.inl rfl | exact Or.inr (Or.inl rfl) | exact Or.inr (Or.inr rfl)) (hd : (x == ("__debug__" : Str)) = false := by decide)
    (hcd : (x == ("__classdict__" : Str)) = false := by decide) : PSs X [.Return (some (.Subscript (.Name x p1) e pos)) p2] (tDOw X.K i (oIx m)) :=
  (pss_one (ps_ret (pe_dget hu (pe_var hN hv hd hcd) he hs))).weak fun E σ H ⟨F, μ, G, S, ρ, fl, S', a, ks, xs, ds, hF, r, re, hi, rx, hl, ev, k⟩ => by
    obtain ⟨⟨d1, S1⟩, e1, ev⟩ := bindS ev
    obtain ⟨kk, hk, ev⟩ := bindS ev
    obtain ⟨d, hq, ev⟩ := map_some ev
    cases ev
    simp only at hk
    refine ⟨_, hi, _, μ, G, S, ρ, d1, _, r, re, e1, fun μ1 G1 H1 p1 x1 q1 v1 r1 => ?_⟩
    have hv := keyOf_V r1 hk
    have hg := dGet_V (k := kk) (ks := ks) (rx.mono p1 x1)
    rw [hq] at hg
    obtain ⟨v, g1, g2⟩ := hg
    exact ⟨a, v, rfl, .inl ⟨_, kk, .inl (q1.frm a _ upd_same), hv, g1.symm⟩, k μ1 G1 H1 p1 x1 (q1.unframe hF) _ g2⟩
theorem ow_set {j : Nat} {nm : Str} {pos' : Pos} (hij : i ≠ j) (hN : X.N.Nodup) (h : PE X e (tD X.K m)) (hr : PSs X rest (tDOw X.K i mo)) (hi : X.N[j]? = some nm := by rfl) (hx : Loc X.env.scope nm := by first | exact Or.inl rfl | exact Or.inr rfl) (hs : swapsWith e (some (.Name nm pos')) pos.line X.env = pure false := by rfl)
    (hf : X.fn nm = true ∨ X.env.scope.names.lookup nm = some .local := by first | exact .inl rfl | exact .inr rfl | assumption) : PSs X (.Assign [.Name nm pos'] e pos :: rest) (tDOw X.K i (oSet j m mo)) :=
  (pss_cons (ps_set hN hi hx h hs hf) hr).weak fun E σ H ⟨F, μ, G, S, ρ, fl, S', a, ks, xs, ds, hF, r, re, hi, rx, hl, ev, k⟩ => by
    obtain ⟨⟨d1, S1⟩, e1, ev⟩ := bindS ev
    refine ⟨_, μ, G, S, ρ, d1, S1, r, re, e1, fun μ1 G1 H1 p1 x1 q1 v1 r1 => ?_⟩
    exact ⟨F, μ1, G1, S1, _, fl, S', a, ks, xs, ds, hF, q1, (re.mono p1 x1).set j r1, by rw [List.getElem?_set_ne (Ne.symm hij)]; exact hi, rx.mono p1 x1, hl, ev, k.mono p1 x1⟩
theorem ow_put {z : Str} {t : Nat} {tp q1' : Pos} (hu : X.A.units + 1 < cLine) (h : PE X e (tD X.K m)) (hr : PSs X rest (tDOw X.K i mo)) (hN : X.N[i]? = some x := by rfl) (hv : Vis X.env.scope x := by first | exact Or.inl rfl | exact Or.inr (Or.inl rfl) | exact Or.inr (Or.inr rfl)) (hd : (x == ("__debug__" : Str)) = false := by decide)
    (hcd : (x == ("__classdict__" : Str)) = false := by decide) (hs : swapsWith e (some (.Subscript (.Name x p1) (.Constant (.str z) t q1') tp)) pos.line X.env = pure false := by rfl) :
    PSs X (.Assign [.Subscript (.Name x p1) (.Constant (.str z) t q1') tp] e pos :: rest) (tDOw X.K i (oPut2 (.inr z) m mo)) :=
  (pss_cons (ps_dput hu (pe_var hN hv hd hcd) pe_str h hs) hr).weak fun E σ H ⟨F, μ, G, S, ρ, fl, S', a, ks, xs, ds, hF, r, re, hi, rx, hl, ev, k⟩ => by
    obtain ⟨⟨d1, S1⟩, e1, ev⟩ := bindS ev
    obtain ⟨h100, ev⟩ := ifo ev
    refine ⟨_, μ, G, S, ρ, d1, S1, r, re, e1, fun μ1 G1 H1 p1 x1 q1 v1 r1 => ?_⟩
    have lz : (ks.zip xs).length < sizeLine := by
      rw [List.length_zip, sizeLine_eq]
      omega
    refine ⟨_, hi, a, _, rfl, .inl ⟨_, .inr z, q1.frm a _ upd_same, rfl, lz, rfl⟩, ?_⟩
    have rx1 := rx.mono p1 x1
    cases hk : hasK (.inr z) ks with
    | true =>
      rw [hk, if_pos rfl] at ev
      have e2 : putK (ks.zip xs) (.inr z) v1 = ks.zip (putVals (.inr z) v1 ks xs) := by
        unfold putK
        rw [any_zip hl, hk, if_pos rfl, zip_map]
      rw [e2]
      exact ⟨F, μ1, G1, S1, ρ, fl, S', a, _, _, _, hF, q1.reframe hF, re.mono p1 x1, hi, rx1.put r1, by rw [putVals_len]; exact hl, ev, k.mono p1 x1⟩
    | false =>
      rw [hk, if_neg Bool.false_ne_true] at ev
      have e2 : putK (ks.zip xs) (.inr z) v1 = (ks ++ [Sum.inr z]).zip (xs ++ [v1]) := by
        unfold putK
        rw [any_zip hl, hk, if_neg Bool.false_ne_true, List.zip_append hl]
        rfl
      rw [e2]
      exact ⟨F, μ1, G1, S1, ρ, fl, S', a, _, _, _, hF, q1.reframe hF, re.mono p1 x1, hi, rx1.app (.cons r1 .nil), by simp [hl], ev, k.mono p1 x1⟩
/-- x = {..} -/
theorem ow_new {nm : Str} {pos' dpos : Pos} {keys : List (Option Expr)} {values : List Expr} {ks : List Key} {m : MA} (hN : X.N.Nodup) (h : PPd X dpos keys values ks m) (hr : PSs X rest (tDOw X.K i mo)) (hall : keys.all (·.isSome) = true := by rfl) (hl : keys.length = values.length := by rfl) (h0 : keys ≠ [] := by simp) (h15 : keys.length ≤ 15 := by decide) (hk : ks.length = keys.length := by rfl) (hn : ks.Nodup := by decide +kernel)
    (hi : X.N[i]? = some nm := by rfl) (hx : Loc X.env.scope nm := by first | exact Or.inl rfl | exact Or.inr rfl) (hs : swapsWith (.Dict keys values dpos) (some (.Name nm pos')) pos.line X.env = pure false := by rfl)
    (hf : X.fn nm = true ∨ X.env.scope.names.lookup nm = some .local := by first | exact .inl rfl | exact .inr rfl | assumption) :
    PSs X (.Assign [.Name nm pos'] (.Dict keys values dpos) pos :: rest) (tDS X.K (sNewD i ks m mo)) := by
  obtain ⟨trs, p, w⟩ := h
  refine (pss_cons (ps_set hN hi hx (pe_disp p hall hl h0 h15) hs hf) hr).weak fun E σ H ⟨F, μ, G, S, ρ, fl, S', r, re, ev, k⟩ => ?_
  obtain ⟨⟨ds, S1⟩, e1, ev⟩ := bindS ev
  obtain ⟨⟨l, li⟩, ev⟩ := ifo ev
  simp only at l li
  intro p hp
  have hF : F p = none := r.frm.back hp
  have hM : p ∉ μ := fun z => r.trk p z hp
  refine w _ _ _ ⟨upd F p (.dK []), μ, G, S, ρ, ds, S1, r.frame (r.sub.back hp) hM hF, re, e1, l, fun μ1 G1 H1 p1 x1 q1 vs r1 => ?_⟩
  have hv : ks.length = vs.length := by rw [r1.len]; exact l.symm
  refine ⟨q1.frm p _ upd_same, ks.zip vs, rfl, by rw [List.length_zip]; omega, ?_⟩
  have hm : mergeK [] (ks.zip vs) = ks.zip vs := by
    have : ((ks.zip vs).map (·.1)) = ks := by rw [List.map_fst_zip (by omega)]
    have := merge_new (kvs := []) (more := ks.zip vs) (by rw [List.nil_append, this]; exact hn)
    rw [List.nil_append] at this
    exact this
  rw [hm]
  have len : i < σ.length := by
    rw [re.len]
    exact li
  exact ⟨F, μ1, G1, S1, ρ.set i none, fl, S', p, ks, vs, ds, hF, q1.reframe hF, (re.mono p1 x1).drop i, by rw [List.getElem?_set_self len], r1, hv, ev, k.mono p1 x1⟩
end
/-! ### a list that changes: x.insert(i, e), x.pop(i), x[i], y[j] = a pair -/
section
variable {o i2 e : Expr} {mi : ME}
def mIns (m mi n : ME) : ME := fun ρ S => (m ρ S).bind fun p => (cellAt p.1 p.2).bind fun _ => (mi ρ p.2).bind fun t => (n ρ t.2).bind fun q => (cellAt p.1 q.2).bind fun c => match t.1 with
  | .int i => if c.2.length < 1000000 ∧ 0 ≤ i ∧ i < 2 ^ 62 then some (.non, q.2.set c.1 (some (c.2.take i.toNat ++ [q.1] ++ c.2.drop i.toNat))) else none
  | _ => none
theorem d_insert (h : PE X o (tD X.K m)) (hi : PE X i2 (tD X.K mi)) (h2 : PE X e (tD X.K n)) (hbase : attributeBase o "insert" X.env (eval o X.env) = eval o X.env := by rfl)
    (hfew : ((backTo pos (starEach [i2, e] X.env)).all (fun x => !x.1) && (backToKw pos (keywordEach [] X.env)).all (fun x => x.1.isSome)
      && decide (([i2, e] : List Expr).length + ([] : List Keyword).length + (if ([] : List Keyword).isEmpty then 0 else 1) < 30)) = true := by rfl)
    (hline : (apos.endLine == pos.line) = true := by rfl) (hs : starEach [i2, e] X.env = (false, eval i2 X.env) :: starEach [e] X.env := by rfl) (hs2 : starEach [e] X.env = (false, eval e X.env) :: starEach [] X.env := by rfl) (hplain : (backTo pos (starEach [e] X.env)).any (·.1) = false := by rfl) :
    PE X (.Call (.Attribute o "insert" apos) [i2, e] [] pos) (tD X.K (mIns m mi n)) :=
  (pe_bm PySem.F.plainAttrs_list PySem.F.slot_list_insert PySem.F.type_list_insert mt_insert h (a_cons hi (a_cons h2 a_nil hs2) hs) hbase hfew hline hs hplain).weak fun σ H Q ⟨F, μ, G, S, ρ, d, S', r, re, ev, k⟩ => by
    obtain ⟨⟨d1, S1⟩, e1, ev⟩ := bindS ev
    obtain ⟨⟨i0, c0⟩, e2, ev⟩ := bindS ev
    obtain ⟨⟨di, S2⟩, e3, ev⟩ := bindS ev
    obtain ⟨⟨d2, S3⟩, e4, ev⟩ := bindS ev
    obtain ⟨⟨ic, c⟩, e5, ev⟩ := bindS ev
    simp only at e2 e3 e4 e5 ev
    cases di with
    | int z =>
      obtain ⟨⟨hl, h0, h62⟩, ev⟩ := ifs ev
      cases ev
      refine ⟨F, μ, G, S, ρ, d1, S1, r, re, e1, fun μ1 G1 H1 p1 x1 q1 v1 r1 => ?_⟩
      obtain ⟨a0, vs0, rfl, _, g2, _⟩ := q1.cellV r1 e2
      refine ⟨.inl ⟨rfl, vs0, SqL.of g2⟩, F, μ1, G1, S1, ρ, [.int z, d2], S3, q1, re.mono p1 x1, (by simp [mCons, mNil, e3, e4]), fun μ2 G2 H2 p2 x2 q2 us r2 => ?_⟩
      cases r2 with
      | cons ri rr =>
        cases ri
        cases rr with
        | cons ru rr =>
          cases rr
          obtain ⟨a, vs, hv, hm, g3, g4⟩ := q2.cellV (r1.mono p2 x2) e5
          cases hv
          obtain ⟨_, hc⟩ := cellAt_is e5
          refine ⟨_, vs, z, _, rfl, rfl, g3, by rw [g4.len]; exact sz6' hl, h0, by omega, ?_⟩
          exact k μ2 G2 _ (p1.trans p2) (x1.trans x2) (q2.write hc hm (((g4.take _).app (.cons ru .nil)).app (g4.drop _))) _ .non
    | _ => cases ev
def mPopAt (m mi : ME) : ME := fun ρ S => (m ρ S).bind fun p => (cellAt p.1 p.2).bind fun _ => (mi ρ p.2).bind fun t => (cellAt p.1 t.2).bind fun c => match t.1 with
  | .int i => if 0 ≤ i ∧ i.toNat < c.2.length ∧ c.2.length < 1000000 then (c.2[i.toNat]?).map fun d => (d, t.2.set c.1 (some (c.2.eraseIdx i.toNat))) else none
  | _ => none
theorem RpA.erase {μ : List Addr} {G : Hp} : ∀ {vs : List V} {ds : List D} (n : Nat), RpA K μ G vs ds → RpA K μ G (vs.eraseIdx n) (ds.eraseIdx n)
  | _, _, _, .nil => by simpa using RpA.nil
  | _, _, 0, .cons _ t => by simpa using t
  | _, _, n + 1, .cons h t => by simpa using RpA.cons h (RpA.erase n t)
theorem seqIx {n : Nat} {i : Int} (h0 : 0 ≤ i) (h : i.toNat < n) : seqIndex? i n = some i.toNat := by
  simp only [seqIndex?, if_neg (show ¬ i < 0 by omega)]
  rw [if_pos (by simp; omega)]
theorem d_popAt (h : PE X o (tD X.K m)) (hi : PE X i2 (tD X.K mi)) (hbase : attributeBase o "pop" X.env (eval o X.env) = eval o X.env := by rfl)
    (hfew : ((backTo pos (starEach [i2] X.env)).all (fun x => !x.1) && (backToKw pos (keywordEach [] X.env)).all (fun x => x.1.isSome)
      && decide (([i2] : List Expr).length + ([] : List Keyword).length + (if ([] : List Keyword).isEmpty then 0 else 1) < 30)) = true := by rfl)
    (hline : (apos.endLine == pos.line) = true := by rfl) (hs : starEach [i2] X.env = (false, eval i2 X.env) :: starEach [] X.env := by rfl) (hplain : (backTo pos (starEach [] X.env)).any (·.1) = false := by rfl) :
    PE X (.Call (.Attribute o "pop" apos) [i2] [] pos) (tD X.K (mPopAt m mi)) :=
  (pe_bm PySem.F.plainAttrs_list PySem.F.slot_list_pop PySem.F.type_list_pop mt_popAt h (a_cons hi a_nil hs) hbase hfew hline hs hplain).weak fun σ H Q ⟨F, μ, G, S, ρ, d, S', r, re, ev, k⟩ => by
    obtain ⟨⟨d1, S1⟩, e1, ev⟩ := bindS ev
    obtain ⟨⟨i0, c0⟩, e2, ev⟩ := bindS ev
    obtain ⟨⟨di, S2⟩, e3, ev⟩ := bindS ev
    obtain ⟨⟨ic, c⟩, e5, ev⟩ := bindS ev
    simp only at e2 e3 e5 ev
    cases di with
    | int z =>
      obtain ⟨⟨h0, h1, h6⟩, ev⟩ := ifo ev
      obtain ⟨d2, e6, ev⟩ := map_some ev
      cases ev
      refine ⟨F, μ, G, S, ρ, d1, S1, r, re, e1, fun μ1 G1 H1 p1 x1 q1 v1 r1 => ?_⟩
      obtain ⟨a0, vs0, rfl, _, g2, _⟩ := q1.cellV r1 e2
      refine ⟨.inl ⟨rfl, vs0, SqL.of g2⟩, F, μ1, G1, S1, ρ, [.int z], S2, q1, re.mono p1 x1, (by simp [mCons, mNil, e3]), fun μ2 G2 H2 p2 x2 q2 us r2 => ?_⟩
      cases r2 with
      | cons ri rr =>
        cases ri
        cases rr
        obtain ⟨a, vs, hv, hm, g3, g4⟩ := q2.cellV (r1.mono p2 x2) e5
        cases hv
        obtain ⟨_, hc⟩ := cellAt_is e5
        obtain ⟨y, hy, ry⟩ := g4.get e6
        refine ⟨_, vs, z, z.toNat, y, rfl, rfl, g3, by omega, by omega, seqIx h0 (by rw [g4.len]; exact h1), hy, ?_⟩
        exact k μ2 G2 _ (p1.trans p2) (x1.trans x2) (q2.write hc hm (g4.erase _)) _ ry
    | _ => cases ev
def sAsg2 (mo1 mi1 mo2 mi2 me : ME) : MS := fun ρ S => (me ρ S).bind fun p => match p.1 with
  | .tup [d1, d2] => (mo1 ρ p.2).bind fun q => (mi1 ρ q.2).bind fun t => (stIx q.1 t.1 d1 t.2).bind fun S1 => (mo2 ρ S1).bind fun q2 => (mi2 ρ q2.2).bind fun t2 => (stIx q2.1 t2.1 d2 t2.2).map fun S2 => (.nx ρ, S2)
  | _ => none
theorem s_asg2 {o1 j1 o2 j2 e : Expr} {mo1 mi1 mo2 mi2 me : ME} {tp1 tp2 tp : Pos} {kk : Nat} (hc : X.calm = true) (he : PE X e (tD X.K me)) (ho1 : PE X o1 (tD X.K mo1)) (hi1 : PE X j1 (tD X.K mi1)) (ho2 : PE X o2 (tD X.K mo2)) (hi2 : PE X j2 (tD X.K mi2))
    (ha : ∀ v, assign (.Subscript o1 j1 tp1) X.env v = (do
      let ov ← holding [v] (eval o1 X.env)
      let iv ← holding [v, ov] (eval j1 X.env)
      standAt tp1
      holding [v, ov, iv] (setItem ov iv v)
      release [v, ov, iv] []) := by intro _; rfl)
    (hb : ∀ v, assign (.Subscript o2 j2 tp2) X.env v = (do
      let ov ← holding [v] (eval o2 X.env)
      let iv ← holding [v, ov] (eval j2 X.env)
      standAt tp2
      holding [v, ov, iv] (setItem ov iv v)
      release [v, ov, iv] []) := by intro _; rfl)
    (h1 : (assignEach [.Subscript o1 j1 tp1, .Subscript o2 j2 tp2] X.env).map (·.2) = assign (.Subscript o1 j1 tp1) X.env :: (assignEach [.Subscript o2 j2 tp2] X.env).map (·.2) := by rfl)
    (h2 : (assignEach [.Subscript o2 j2 tp2] X.env).map (·.2) = assign (.Subscript o2 j2 tp2) X.env :: (assignEach [] X.env).map (·.2) := by rfl)
    (hn : (assignEach [.Subscript o1 j1 tp1, .Subscript o2 j2 tp2] X.env).length = 2 := by rfl) (hst : (assignEach [.Subscript o1 j1 tp1, .Subscript o2 j2 tp2] X.env).findIdx? (·.1) = none := by rfl)
    (hs : swapsWithSole [.Tuple [.Subscript o1 j1 tp1, .Subscript o2 j2 tp2] kk tp] e pos.line X.env = pure false := by rfl) (hw : swappedStores [.Tuple [.Subscript o1 j1 tp1, .Subscript o2 j2 tp2] kk tp] e X.env = pure none := by rfl)
    (h3 : (assignEach [.Tuple [.Subscript o1 j1 tp1, .Subscript o2 j2 tp2] kk tp] X.env).map (·.2) = [assign (.Tuple [.Subscript o1 j1 tp1, .Subscript o2 j2 tp2] kk tp) X.env] := by rfl) :
    PS X (.Assign [.Tuple [.Subscript o1 j1 tp1, .Subscript o2 j2 tp2] kk tp] e pos) (tDS X.K (sAsg2 mo1 mi1 mo2 mi2 me)) :=
  (ps_asg he (pg_tup hc (pgs_cons (pg_sub ho1 hi1 set_list ha) (pgs_cons (pg_sub ho2 hi2 set_list hb) pgs_nil h2) h1) hn hst) hs hw h3).weak fun E σ H ⟨F, μ, G, S, ρ, f, S', r, re, ev, k⟩ => by
    obtain ⟨⟨d, S1⟩, e1, ev⟩ := bindS ev
    refine ⟨F, μ, G, S, ρ, d, S1, r, re, e1, fun μ1 G1 H1 p1 x1 q1 v1 r1 => ?_⟩
    simp only at ev
    split at ev
    · rename_i d1 d2
      obtain ⟨⟨a1, S2⟩, e2, ev⟩ := bindS ev
      obtain ⟨⟨a2, S3⟩, e3, ev⟩ := bindS ev
      obtain ⟨S4, e4, ev⟩ := bindS ev
      obtain ⟨⟨a3, S5⟩, e5, ev⟩ := bindS ev
      obtain ⟨⟨a4, S6⟩, e6, ev⟩ := bindS ev
      obtain ⟨S7, e7, ev⟩ := map_some ev
      cases ev
      cases r1 with
      | tup hT rr =>
        cases rr with
        | cons r1 rr =>
          cases rr with
          | cons r2 rr =>
            cases rr
            refine ⟨_, _, rfl, q1.sub.st hT, rfl, _, _, rfl, ?_⟩
            have re1 := re.mono p1 x1
            refine ⟨F, μ1, G1, S1, ρ, a1, S2, q1, re1, e2, fun μ2 G2 H2 p2 x2 q2 v2 s2 => ?_⟩
            refine ⟨F, μ2, G2, S2, ρ, a2, S3, q2, re1.mono p2 x2, e3, fun μ3 G3 H3 p3 x3 q3 v3 s3 => ?_⟩
            refine st_ix q3 (s2.mono p3 x3) s3 (r1.mono (p2.trans p3) (x2.trans x3)) e4 fun H4 q4 => ?_
            refine ⟨_, _, rfl, F, μ3, G3, S4, ρ, a3, S5, q4, (re1.mono p2 x2).mono p3 x3, e5, fun μ5 G5 H5 p5 x5 q5 v5 s5 => ?_⟩
            refine ⟨F, μ5, G5, S5, ρ, a4, S6, q5, ((re1.mono p2 x2).mono p3 x3).mono p5 x5, e6, fun μ6 G6 H6 p6 x6 q6 v6 s6 => ?_⟩
            refine st_ix q6 (s5.mono p6 x6) s6 (r2.mono ((p2.trans p3).trans (p5.trans p6)) ((x2.trans x3).trans (x5.trans x6))) e7 fun H7 q7 => ?_
            exact ⟨rfl, k μ6 G6 H7 ((p1.trans (p2.trans p3)).trans (p5.trans p6)) ((x1.trans (x2.trans x3)).trans (x5.trans x6)) q7 σ ((((re1.mono p2 x2).mono p3 x3).mono p5 x5).mono p6 x6)⟩
    · cases ev
/-! ### is True -/
def fIsB (neg : Bool) : MOp
  | .bl a, .bl b, S => some (.bl (if neg then !decide (a = b) else decide (a = b)), S)
  | _, _, _ => none
theorem f_notB : OpD K (fun x y H Q => ∃ a b, x = .bl a ∧ y = .bl b ∧ Q (.bl (!decide (a = b))) H) (fIsB true) := by
  intro F μ G S H x y d e z S' Q r r1 r2 hf a
  cases d <;> first | (cases hf; done) | skip
  cases e <;> first | (cases hf; done) | skip
  cases hf
  cases r1
  cases r2
  exact ⟨_, _, rfl, rfl, tD_now a r (.bl _)⟩
/-! ### a dict of the module asked with a word for what is not there -/
def mTget (tb : List (Str × D)) (m n : ME) : ME := fun ρ S => (m ρ S).bind fun p => (n ρ p.2).bind fun q => match p.1 with
  | .str z => some ((tb.lookup z).getD q.1, q.2)
  | _ => none
theorem pe_kget2 {d : Addr} {y : Str} {q : Pos} {es : Array DictEntry} {k : Nat} {ty tx : TE} (D' : KDict X.K X.w d es k) (hm : X.mg y = some (.ref d)) (he : PE X e ty) (hf : PE X f tx) (M : M2 X (.Name y q) "get" apos e f pos) (hg : Gl X y) (hd : (y == ("__debug__" : Str)) = false) :
    PE X (.Call (.Attribute (.Name y q) "get" apos) [e, f] [] pos) (fun σ H Q => ty σ H fun v H1 => tx σ H1 fun z H2 => ∃ (w : Str) (r : Option Value), v = .str w ∧ PySem.W.nsIn X.K d w = some r ∧ (match r with | some u => ∃ v0, RelV v0 u ∧ Q v0 H2 | none => Q z H2)) := by
  refine ⟨fun pins s σ H Q I h => ?_⟩
  have hp := pe_glob (X := X) (pos := q) (v := .ref d) hg hm rfl hd
  refine wpAny_Call_method M.base M.few M.line PySem.F.plainAttrs_dict PySem.F.slot_dict_get PySem.F.type_dict_get (thn (hp.run pins s σ H (fun v H1 => v = .ref d ∧ H1 = H) I ⟨rfl, rfl⟩) fun u s1 ⟨x, H1, I1, rx, ex, eh⟩ => ?_)
  subst ex
  subst eh
  obtain rfl : u = Value.ref d := rx
  refine ⟨(PySem.W.mapOf_K (prog := X.prog) (w := X.w) I1.kIn D'.at_ D'.lit).typeIs, fun b hb => ?_, ?_⟩
  · cases hb
    exact ⟨_, I1.kIn _ _ D'.at_, rfl⟩
  rw [M.trees]
  refine Calls.callWith_builtin rfl (Calls.evalArgs_plain (Calls.spliced_cons (thn (he.run pins s1 σ _ _ I1 h) fun iv s2 ⟨yv, H2, I2, ry, q2⟩ =>
    Calls.spliced_cons (thn (hf.run pins s2 σ H2 _ I2 q2) fun fv s3 ⟨z, H3, I3, rz, w0, r0, ew, en, q3⟩ => Calls.spliced_nil ?_))))
  subst ew
  obtain ⟨t, rfl⟩ := ry
  have hmap := PySem.W.mapOf_K (prog := X.prog) (w := X.w) I3.kIn D'.at_ D'.lit
  refine call_meetsIn PySem.F.slot_dict_get hmap.typeIs PySem.F.entry_dict_get (PySem.F.args_dict_get_3 _ _ _) (meets_dict_get_default (strKind X.prog X.w) d (strKind_is X.prog X.w w0 t) D'.low fv) ⟨_, hmap, ?_⟩
  rw [PySem.W.find_K D'.at_ en]
  cases r0 with
  | some u0 =>
    obtain ⟨v0, rv, qq⟩ := q3
    exact ⟨v0, H3, I3.tok _, rv, qq⟩
  | none => exact ⟨z, H3, I3.tok _, rz, q3⟩
theorem d_tget {d : Addr} {tb : List (Str × D)} {y : Str} {q : Pos} (T : TabD X.K X.w d tb) (hm : X.mg y = some (.ref d)) (he : PE X e (tD X.K m)) (hf : PE X f (tD X.K n)) (hg : Gl X y := by rfl) (hd : (y == ("__debug__" : Str)) = false := by decide)
    (hbase : attributeBase (.Name y q) "get" X.env (eval (.Name y q) X.env) = eval (.Name y q) X.env := by rfl)
    (hfew : ((backTo pos (starEach [e, f] X.env)).all (fun x => !x.1) && (backToKw pos (keywordEach [] X.env)).all (fun x => x.1.isSome)
      && decide (([e, f] : List Expr).length + ([] : List Keyword).length + (if ([] : List Keyword).isEmpty then 0 else 1) < 30)) = true := by rfl)
    (hline : (apos.endLine == pos.line) = true := by rfl) (htr : backTo pos (starEach [e, f] X.env) = [(false, eval e X.env), (false, eval f X.env)] := by rfl) :
    PE X (.Call (.Attribute (.Name y q) "get" apos) [e, f] [] pos) (tD X.K (mTget tb m n)) := by
  obtain ⟨es, k, D', hE⟩ := T.ex
  refine (pe_kget2 D' hm he hf ⟨hbase, hfew, hline, htr⟩ hg hd).weak fun σ H Q ⟨F, μ, G, S, ρ, dd, S', r, re, ev, k⟩ => ?_
  obtain ⟨⟨d1, S1⟩, e1, ev⟩ := bindS ev
  obtain ⟨⟨d2, S2⟩, e2, ev⟩ := bindS ev
  simp only at e2 ev
  cases d1 with
  | str z =>
    cases ev
    refine ⟨F, μ, G, S, ρ, _, _, r, re, e1, fun μ1 G1 H1 p1 x1 q1 v1 r1 => ?_⟩
    refine ⟨F, μ1, G1, S1, ρ, _, _, q1, re.mono p1 x1, e2, fun μ2 G2 H2 p2 x2 q2 v2 r2 => ?_⟩
    cases r1
    have hz := tabD_ns D' hE z
    have fin := k μ2 G2 H2 (p1.trans p2) (x1.trans x2) q2
    cases hl : tb.lookup z with
    | some d3 =>
      rw [hl] at hz fin
      obtain ⟨u, g1, g2⟩ := hz
      obtain ⟨w, g3, g4⟩ := litB_ok g2
      exact ⟨z, _, rfl, g1, w, g3, fin _ (g4 _ _)⟩
    | none =>
      rw [hl] at hz fin
      exact ⟨z, _, rfl, hz, fin _ r2⟩
  | _ => cases ev
/-! ### a dict of one row, its key drawn -/
def mDic1 (mk mv : ME) : ME := fun ρ S => (mk ρ S).bind fun p => (mv ρ p.2).bind fun q => match p.1 with
  | .str z => some (.dct [.inr z] [q.1], q.2)
  | _ => none
theorem d_dic1 {ek ev : Expr} {mk mv : ME} (hk : PE X ek (tD X.K mk)) (hv : PE X ev (tD X.K mv)) : PE X (.Dict [some ek] [ev] pos) (tD X.K (mDic1 mk mv)) := by
  refine (pe_disp (pps_cons hk hv pps_nil) rfl rfl (by simp) (by simp)).weak fun σ H Q ⟨F, μ, G, S, ρ, d, S', r, re, e, a⟩ => ?_
  obtain ⟨⟨d1, S1⟩, e1, e⟩ := bindS e
  obtain ⟨⟨d2, S2⟩, e2, e⟩ := bindS e
  simp only at e2 e
  cases d1 with
  | str z =>
    cases e
    intro p hp
    have hF : F p = none := r.frm.back hp
    have hM : p ∉ μ := fun z => r.trk p z hp
    refine ⟨upd F p (.dK []), μ, G, S, ρ, _, _, r.frame (r.sub.back hp) hM hF, re, e1, fun μ1 G1 H1 p1 x1 q1 v1 r1 => ?_⟩
    refine ⟨upd F p (.dK []), μ1, G1, S1, ρ, _, _, q1, re.mono p1 x1, e2, fun μ2 G2 H2 p2 x2 q2 v2 r2 => ?_⟩
    cases r1
    refine ⟨q2.frm p _ upd_same, [(.inr z, v2)], rfl, by simp, ?_⟩
    have q3 := (q2.reframe (o' := .dK [(Sum.inr z, v2)]) hF).thaw hF
    have hG : G2 p = none := (q2.frd p _ upd_same).1
    exact a μ2 _ _ (p1.trans p2) ((x1.trans x2).trans (Ex.new hG)) q3 _ (.dct (ks := [.inr z]) (xs := [v2]) upd_same (.cons (r2.mono (Pf.refl _) (Ex.new hG)) .nil) rfl)
  | _ => cases e
/-! ### list(x), to be changed -/
def fLisC : MF := fun ds S => match ds with
  | [d] => (seqOf d).map fun c => (.loc S.length, S ++ [some c])
  | _ => none
theorem c_lisC : CalD K (rLis K) fLisC := by
  intro F μ G S H vs ds z S' Q r ra hf a
  unfold fLisC at hf
  split at hf
  · obtain ⟨c, h1, h2⟩ := map_some hf
    cases h2
    cases ra with
    | cons r1 rr =>
      cases rr
      obtain ⟨q, ws, rfl, hs, ha⟩ := seqOf_sq r.sub r1 h1
      refine .inl ⟨_, _, rfl, hs, fun l hl => a (μ ++ [l]) G _ ⟨[l], rfl⟩ (Ex.refl _) (r.cellNew hl ha) _ (.loc ?_)⟩
      rw [← r.len, List.getElem?_append_right (Nat.le_refl _), Nat.sub_self]
      rfl
  · cases hf
/-! ### a list that is changed no more -/
theorem Rel.frz {μ : List Addr} {S : Sto} {H G : Hp} {n : Nat} {c : List D} (r : Rel K F μ S H G) (hn : S[n]? = some (some c)) : ∃ a vs, μ[n]? = some a ∧ G a = none ∧ RpA K μ G vs c ∧ Rel K F μ (S.set n none) H (upd G a (.lst vs)) := by
  obtain ⟨a, vs, h1, h2, h3, h4⟩ := r.cell n c hn
  refine ⟨a, vs, h1, h4, h3, ?_, by rw [List.length_set]; exact r.len, fun k e hk => ?_, r.inj, r.trk, r.frm, fun b u e => ?_⟩
  · intro b u e
    by_cases hb : b = a
    · rw [hb, upd_same] at e
      cases e
      rw [hb]
      exact h2
    · rw [upd_ne hb] at e
      exact r.sub b u e
  · have hkn : n ≠ k := fun z => by
      subst z
      rw [List.getElem?_set_self (List.getElem?_eq_some_iff.mp hn).1] at hk
      cases hk
    rw [List.getElem?_set_ne hkn] at hk
    obtain ⟨b, ws, g1, g2, g3, g4⟩ := r.cell k e hk
    have ne : b ≠ a := fun z => hkn (r.inj n k a h1 (z ▸ g1))
    exact ⟨b, ws, g1, g2, g3.mono (Pf.refl _) (Ex.new h4), by rw [upd_ne ne]; exact g4⟩
  · have q := r.frd b u e
    have ne : b ≠ a := fun z => q.2 (z ▸ List.mem_of_getElem? h1)
    rw [upd_ne ne]
    exact q
def sFrz (i : Nat) (ms : MS) : MS := fun ρ S => match ρ[i]? with
  | some (some (.loc n)) => (match S[n]? with
    | some (some c) => ms (ρ.set i (some (.lst c))) (S.set n none)
    | _ => none)
  | _ => none
theorem s_frz {i : Nat} {st : Stmt} {ms : MS} (h : PS X st (tDS X.K ms)) : PS X st (tDS X.K (sFrz i ms)) := h.weak fun E σ H ⟨F, μ, G, S, ρ, f, S', r, re, e, k⟩ => by
  unfold sFrz at e
  split at e
  · rename_i n hi
    split at e
    · rename_i c hc
      obtain ⟨a, vs, h1, h2, h3, q⟩ := r.frz hc
      have x := Ex.new (o := HO.lst vs) h2
      obtain ⟨v, g1, g2⟩ := re.at' i _ hi
      have ev : v = .ref a := by
        cases g2 with
        | loc hm =>
          rw [h1] at hm
          cases hm
          rfl
      subst ev
      have re2 := (re.mono (Pf.refl _) x).set i (d := .lst c) (v := .ref a) (.lst upd_same (h3.mono (Pf.refl _) x))
      have es : σ.set i (some (.ref a)) = σ := by
        obtain ⟨hl, he⟩ := List.getElem?_eq_some_iff.mp g1
        rw [← he]
        exact List.set_getElem_self hl
      rw [es] at re2
      exact ⟨F, μ, _, _, _, f, S', q, re2, e, k.mono (Pf.refl _) x⟩
    · cases e
  · cases e
/-! ### a, b, c = x, y, z -/
def sPar3 (i j l : Nat) (m n u : ME) : MS := fun ρ S => (m ρ S).bind fun p => (n ρ p.2).bind fun q => (u ρ q.2).map fun t => (.nx (((ρ.set i (some p.1)).set j (some q.1)).set l (some t.1)), t.2)
theorem s_par3 {i j l : Nat} {x y z : Str} {a b c : Expr} {m n u : ME} {px py pz pt : Pos} {kt k2 pt2} (hc : X.calm = true) (hN : X.N.Nodup) (ha : PE X a (tD X.K m)) (hb : PE X b (tD X.K n)) (hcc : PE X c (tD X.K u)) (hi : X.N[i]? = some x := by rfl) (hj : X.N[j]? = some y := by rfl) (hl : X.N[l]? = some z := by rfl) (hij : i ≠ j := by decide) (hil : i ≠ l := by decide) (hjl : j ≠ l := by decide)
    (hx : X.env.scope.names.lookup x = some .local := by rfl) (hy : X.env.scope.names.lookup y = some .local := by rfl) (hz : X.env.scope.names.lookup z = some .local := by rfl)
    (hw : swappedStores [.Tuple [.Name x px, .Name y py, .Name z pz] kt pt] (.Tuple [a, b, c] k2 pt2) X.env = pure (some [x, y, z]) := by rfl)
    (hs : swapsWithSole [.Tuple [.Name x px, .Name y py, .Name z pz] kt pt] (.Tuple [a, b, c] k2 pt2) pos.line X.env = pure false := by rfl)
    (he : starEach [a, b, c] X.env = (false, eval a X.env) :: starEach [b, c] X.env := by rfl) (he2 : starEach [b, c] X.env = (false, eval b X.env) :: starEach [c] X.env := by rfl) (he3 : starEach [c] X.env = (false, eval c X.env) :: starEach [] X.env := by rfl) :
    PS X (.Assign [.Tuple [.Name x px, .Name y py, .Name z pz] kt pt] (.Tuple [a, b, c] k2 pt2) pos) (tDS X.K (sPar3 i j l m n u)) :=
  (ps_par3 hc hN hi hj hl hij hil hjl hx hy hz (a_cons ha (a_cons hb (a_cons hcc a_nil he3) he2) he) hw hs).weak fun E σ H ⟨F, μ, G, S, ρ, f, S', r, re, e, k⟩ => by
    obtain ⟨⟨d1, S1⟩, e1, e⟩ := bindS e
    obtain ⟨⟨d2, S2⟩, e2, e⟩ := bindS e
    obtain ⟨⟨d3, S3⟩, e3, e⟩ := map_some e
    cases e
    simp only at e2 e3
    refine ⟨F, μ, G, S, ρ, [d1, d2, d3], S3, r, re, ?_, fun μ1 G1 H1 p1 x1 q1 v1 r1 => ?_⟩
    · simp [mCons, mNil, e1, e2, e3]
    · cases r1 with
      | cons r1 rr =>
        cases rr with
        | cons r2 rr =>
          cases rr with
          | cons r3 rr =>
            cases rr
            exact ⟨_, _, _, rfl, k μ1 G1 H1 p1 x1 q1 _ ((((re.mono p1 x1).set i r1).set j r2).set l r3)⟩
/-! ### a tuple beside an empty one -/
def rNeT (K : PySem.W.Frag) : R2 := fun x y H Q => ∃ a b xs, x = .ref a ∧ y = .ref b ∧ SqT K H a xs ∧ SqT K H b [] ∧ Q (.bl (!xs.isEmpty)) H
theorem op_neT (hu : X.A.units < cLine) : OpR X (compareOp .NotEq) (rNeT X.K) := by
  intro pins s σ H x y v u Q I rx ry h
  obtain ⟨a, b, xs, rfl, rfl, h1, h2, q⟩ := h
  cases rx
  cases ry
  obtain ⟨its, r1, ⟨o1, a1, a2, n1, a3⟩, _⟩ := I.tuple h1
  obtain ⟨it2, r2, ⟨o2, b1, b2, n2, b3⟩, _⟩ := I.tuple h2
  cases r2
  have key := SeqAt.RcNeAt.tuples (A := X.A) (e := fun _ => true) ⟨o1, a1, a2, n1, a3⟩ ⟨o2, b1, b2, n2, b3⟩ hu (fun j g1 g2 => absurd g2 (by simp))
  have e : (!((List.range (min its.toArray.size ([] : List Value).toArray.size)).all (fun _ => true) && its.toArray.size == ([] : List Value).toArray.size)) = !xs.isEmpty := by
    cases r1 <;> simp
  rw [e] at key
  exact key X.prog X.w _ _ ⟨.bl _, H, I, rfl, q⟩
def fNeT : MOp
  | .tup xs, .tup [], S => some (.bl (!xs.isEmpty), S)
  | _, _, _ => none
theorem f_neT : OpD K (rNeT K) fNeT := by
  intro F μ G S H x y d e z S' Q r r1 r2 hf a
  cases d <;> first | (cases hf; done) | skip
  rename_i xs
  cases e <;> first | (cases hf; done) | skip
  rename_i ys
  cases ys with
  | cons _ _ => cases hf
  | nil =>
    cases hf
    cases r1 with
    | tup g1 g2 =>
      cases r2 with
      | tup g3 g4 =>
        cases g4
        refine ⟨_, _, _, rfl, rfl, r.sub.st g1, r.sub.st g3, ?_⟩
        have e : ∀ {vs : List V} {ds : List D}, RpA K μ G vs ds → vs.isEmpty = ds.isEmpty := fun h => by cases h <;> rfl
        rw [e g2]
        exact tD_now a r (.bl _)
end
end
end DL
/-! DMa -/
/-! DMa: dicts whose keys are data of any kind side by side: numbers, texts, None, tuples of such. -/
namespace DM
open PySem PySem.Spec PyProof.Rows L2
abbrev En := NestedKey × Value × Value
def enOf (w : World) (x : En) : DictEntry := ⟨x.1.hash w, x.2.1, x.2.2⟩
abbrev keysOf (xs : List En) : List NestedKey := xs.map fun x => x.1
abbrev Good (h : Heap) (k : NestedKey) (v : Value) : Prop := NestedIs h k v ∧ k.depth ≤ 8
/-- the dict at d -/
structure Has (w : World) (h : Heap) (d : Addr) (xs : List En) (o : Obj) (arr : Array DictEntry) (ep : Nat) : Prop where
  at' : h.get? d = some o
  ex : o.ExactDict
  dat : o.data = .dict arr ep
  ent : arr.toList = xs.map (enOf w)
  key : ∀ x ∈ xs, Good h x.1 x.2.1
  nod : (keysOf xs).Nodup
section
variable {prog : Program} {w : World} {A : Around} {E : Value → Shared → Prop} {s : Shared} {d : Addr} {xs : List En} {o : Obj} {arr : Array DictEntry} {ep : Nat} {k : NestedKey} {key v : Value}
theorem Has.size {h : Heap} (m : Has w h d xs o arr ep) : arr.size = xs.length := by
  rw [← Array.length_toList, m.ent, List.length_map]
theorem Has.get {h : Heap} (m : Has w h d xs o arr ep) (i : Nat) : arr[i]? = (xs[i]?).map (enOf w) := by
  rw [← Array.getElem?_toList, m.ent, List.getElem?_map]
/-- two places hold no one key -/
theorem Has.same {h : Heap} (m : Has w h d xs o arr ep) {i j : Nat} {x y : En} (hx : xs[i]? = some x) (hy : xs[j]? = some y) (e : x.1 = y.1) : i = j := by
  have l : i < (keysOf xs).length := by
    rw [List.length_map]
    exact (List.getElem?_eq_some_iff.mp hx).1
  refine (List.getElem?_inj l m.nod).mp ?_
  rw [List.getElem?_map, List.getElem?_map, hx, hy]
  show some x.1 = some y.1
  rw [e]
theorem quiet {st : List Value} {Q : Bool → Shared → Prop} (hk : Good s.heap k key) (hs : ∀ u ∈ st, ∃ k', Good s.heap k' u) (q : Q false s) : wpAny (model prog w) A (tableMayTell key st) Q E s := by
  unfold tableMayTell
  cases hst : st.isEmpty with
  | true =>
    rw [if_pos rfl]
    exact wpAny_pure q
  | false =>
    rw [if_neg (by simp)]
    refine wpAny_bind (quiet_key k _ 8 s hk.1 hk.2 A E _ ?_)
    simp only [Bool.not_true, Bool.false_eq_true, if_false]
    refine wpAny_bind (wpAny_forIn_list _ (fun rest b s' => (∀ u ∈ rest, u ∈ st) ∧ b = (none, ()) ∧ s' = s) _ ?_ ?_ _ _ ⟨fun u hu => hu, rfl, rfl⟩)
    · rintro u rest b s' ⟨hr, rfl, rfl⟩
      obtain ⟨k', g⟩ := hs u (hr u (List.mem_cons_self ..))
      refine wpAny_bind (quiet_key k' _ 8 _ g.1 g.2 A E _ ?_)
      simp only [Bool.not_true, Bool.false_eq_true, if_false]
      exact wpAny_pure ⟨fun y hy => hr y (List.mem_cons_of_mem _ hy), rfl, rfl⟩
    · rintro b s' ⟨_, rfl, rfl⟩
      exact wpAny_pure q
theorem eq_two {k' : NestedKey} {u : Value} {Q : Bool → Shared → Prop} (hu : A.units + 8 < cLine) (h1 : Good s.heap k' u) (h2 : Good s.heap k v) (q : Q (decide (k' = k)) s) : wpAny (model prog w) A (eqBool u v) Q E s := by
  refine eqAt_key k' k A s _ _ h1.1 h2.1 ?_ prog w E Q ?_
  · have := h1.2
    omega
  · rw [← NestedKey.decide_eq]
    exact q
/-- the places that are looked at -/
def spots (w : World) (arr : Array DictEntry) (k : NestedKey) : List Nat := placesWithHash arr.size (fun i => arr[i]?.map fun e => e.hash) (k.hash w)
theorem spots_mem {h : Heap} (m : Has w h d xs o arr ep) {i : Nat} {x : En} (hx : xs[i]? = some x) (e : x.1 = k) : i ∈ spots w arr k := by
  unfold spots placesWithHash
  have l : i < arr.size := by
    rw [m.size]
    exact (List.getElem?_eq_some_iff.mp hx).1
  rw [List.mem_filter]
  refine ⟨List.mem_range.mpr l, ?_⟩
  show ((arr[i]?.map fun e => e.hash) == some (k.hash w)) = true
  rw [m.get, hx, ← e]
  simp [enOf]
theorem spots_at {h : Heap} (m : Has w h d xs o arr ep) {i : Nat} (hi : i ∈ spots w arr k) : ∃ x, xs[i]? = some x ∧ x.1.hash w = k.hash w := by
  unfold spots placesWithHash at hi
  rw [List.mem_filter] at hi
  have l := List.mem_range.mp hi.1
  rw [m.size] at l
  have e := List.getElem?_eq_getElem l
  refine ⟨_, e, ?_⟩
  have h2 : ((arr[i]?.map fun e => e.hash) == some (k.hash w)) = true := hi.2
  rw [m.get, e] at h2
  simpa [enOf] using h2
theorem spots_nodup : (spots w arr k).Nodup := by
  unfold spots placesWithHash
  exact List.Pairwise.filter _ List.nodup_range
structure Fq (xs : List En) (k : NestedKey) (s : Shared) (Q : Option Nat → Shared → Prop) : Prop where
  no : (∀ x ∈ xs, x.1 ≠ k) → Q none s
  yes : ∀ (i : Nat) (x : En), xs[i]? = some x → x.1 = k → Q (some i) s
/-- what is known when some spots have been looked at -/
theorem none_of {h : Heap} (m : Has w h d xs o arr ep) (hn : ∀ i ∈ spots w arr k, ∀ x, xs[i]? = some x → x.1 ≠ k) : ∀ x ∈ xs, x.1 ≠ k := fun x hx e => by
  obtain ⟨i, hi⟩ := List.mem_iff_getElem?.mp hx
  exact hn i (spots_mem m hi e) x hi e
theorem walk_plain {Q : Option Nat → Shared → Prop} (hu : A.units + 8 < cLine) (m : Has w s.heap d xs o arr ep) (hk : Good s.heap k key) (f : Fq xs k s Q) : wpAny (model prog w) A (dictWalkPlain d key (k.hash w) arr (spots w arr k)) Q E s := by
  unfold dictWalkPlain
  refine wpAny_bind ?_
  refine wpAny_forIn_list _ (fun rest b s' => s' = s ∧ b = (none, ()) ∧ (∀ i ∈ rest, i ∈ spots w arr k) ∧ ∀ i ∈ spots w arr k, i ∉ rest → ∀ x, xs[i]? = some x → x.1 ≠ k) _ ?_ ?_ _ _ ⟨rfl, rfl, fun _ h => h, fun i h1 h2 => absurd h1 h2⟩
  · rintro i rest b s' ⟨rfl, rfl, hr, hno⟩
    obtain ⟨x, hx, hh⟩ := spots_at m (hr i (List.mem_cons_self ..))
    have g := m.key x (List.mem_of_getElem? hx)
    rw [m.get, hx]
    show wpAny _ _ (if ((enOf w x).hash == k.hash w) = true then _ else _) _ _ _
    rw [if_pos (by rw [beq_iff_eq]; exact hh)]
    refine wpAny_bind (wpAny_dictEpoch m.at' m.dat (wpAny_bind (eq_two hu g hk (wpAny_bind (wpAny_dictEpoch m.at' m.dat ?_)))))
    show wpAny _ _ (if (ep != ep) = true then _ else _) _ _ _
    rw [if_neg (by simp)]
    by_cases hkk : x.1 = k
    · rw [decide_eq_true hkk]
      exact wpAny_bind (wpAny_rule (wpAny_pure (wpAny_pure (f.yes i x hx hkk))))
    · rw [decide_eq_false hkk]
      refine wpAny_bind (wpAny_rule (wpAny_pure ⟨rfl, rfl, fun j hj => hr j (List.mem_cons_of_mem _ hj), fun j h1 h2 y hy => ?_⟩))
      by_cases hji : j = i
      · subst hji
        rw [hx] at hy
        cases hy
        exact hkk
      · exact hno j h1 (fun hm => (List.mem_cons.mp hm).elim hji h2) y hy
  · rintro b s' ⟨rfl, rfl, _, hno⟩
    exact wpAny_pure (f.no (none_of m fun i hi x hx => hno i hi (by simp) x hx))
theorem stored_good {h : Heap} (m : Has w h d xs o arr ep) : ∀ u ∈ (spots w arr k).filterMap (fun i => arr[i]?.map fun e => e.key), ∃ k', Good h k' u := by
  intro u hu
  obtain ⟨i, hi, e⟩ := List.mem_filterMap.mp hu
  obtain ⟨x, hx, _⟩ := spots_at m hi
  rw [m.get, hx] at e
  simp only [Option.map_some, Option.some.injEq] at e
  subst e
  exact ⟨x.1, m.key x (List.mem_of_getElem? hx)⟩
theorem unchanged {h : Heap} (m : Has w h d xs o arr ep) (hk : Good h k key) : ¬ (arr.any fun e => e.key == key && e.hash != k.hash w) = true := by
  rw [← Array.any_toList, List.any_eq_true]
  rintro ⟨e, he, hc⟩
  rw [m.ent] at he
  obtain ⟨x, hx, rfl⟩ := List.mem_map.mp he
  rw [Bool.and_eq_true, beq_iff_eq, bne_iff_ne] at hc
  have g := (m.key x hx).1
  have hc1 : x.2.1 = key := hc.1
  rw [hc1] at g
  exact hc.2 (by rw [NestedIs.inj _ _ _ hk.1 g]; rfl)
theorem find_at {Q : Option Nat → Shared → Prop} (hu : A.units + 8 < cLine) (m : Has w s.heap d xs o arr ep) (hk : Good s.heap k key) (f : Fq xs k s Q) : wpAny (model prog w) A (dictFind d key (k.hash w)) Q E s := by
  have plain := walk_plain (prog := prog) (E := E) hu m hk f
  have unch := unchanged m hk
  unfold dictFind
  refine wpAny_holding (wpAny_bind (wpAny_dictEntries m.at' m.dat ?_))
  dsimp only
  have hsp : placesWithHash arr.size (fun i => arr[i]?.map fun e => e.hash) (k.hash w) = spots w arr k := rfl
  simp only [hsp]
  have sg := stored_good (k := k) m
  generalize hst : (spots w arr k).filterMap (fun i => arr[i]?.map fun e => e.key) = st at sg ⊢
  have hk0 := hk
  obtain ⟨h1, h8⟩ := hk
  have hstr : ∀ y t, key = .str y t → (arr.all fun e => isExactStrKey e.key) = true → wpAny (model prog w) A (foundByValue d key arr y) Q E s := by
    intro y t ek _
    subst ek
    have ek2 : k = .text y := by
      cases h1
      rfl
    have his : ∀ x ∈ xs, x.2.1.isStr y = true ↔ x.1 = k := fun x hx => by
      have g := (m.key x hx).1
      obtain ⟨q, u, v⟩ := x
      subst ek2
      cases g with
      | text z t => exact ⟨fun e => by rw [(beq_iff_eq (a := z) (b := y)).mp e], fun e => by injection e with e; exact (beq_iff_eq (a := z) (b := y)).mpr e⟩
      | none => exact ⟨fun e => (nomatch e), fun e => (nomatch e)⟩
      | bool _ => exact ⟨fun e => (nomatch e), fun e => (nomatch e)⟩
      | int _ _ => exact ⟨fun e => (nomatch e), fun e => (nomatch e)⟩
      | tup _ _ _ _ => exact ⟨fun e => (nomatch e), fun e => (nomatch e)⟩
    unfold foundByValue
    cases hf : arr.findIdx? (fun e => e.key.isStr y) with
    | none =>
      rw [Array.findIdx?_eq_none_iff] at hf
      refine wpAny_pure (f.no fun x hx e => ?_)
      have hm : enOf w x ∈ arr := by
        rw [← Array.mem_toList_iff, m.ent]
        exact List.mem_map_of_mem hx
      have := hf _ hm
      rw [show (enOf w x).key = x.2.1 from rfl, (his x hx).mpr e] at this
      cases this
    | some i =>
      obtain ⟨hlt, hi, _⟩ := Array.findIdx?_eq_some_iff_getElem.mp hf
      have hl2 : i < xs.length := by rw [← m.size]; exact hlt
      have hx := List.getElem?_eq_getElem hl2
      have ha : arr[i]? = some (enOf w xs[i]) := by rw [m.get, hx]; rfl
      have hai : arr[i] = enOf w xs[i] := by
        rw [Array.getElem?_eq_getElem hlt] at ha
        exact Option.some.inj ha
      rw [hai] at hi
      have hm := List.mem_of_getElem? hx
      have ekk : xs[i].1 = k := (his _ hm).mp hi
      simp only [ha]
      refine wpAny_bind (wpAny_dictEpoch m.at' m.dat (wpAny_bind (eq_two hu (m.key _ hm) hk0 (wpAny_bind (wpAny_dictEpoch m.at' m.dat ?_)))))
      show wpAny _ _ (if (ep != ep) = true then _ else _) _ _ _
      rw [if_neg (by simp), decide_eq_true ekk]
      exact wpAny_bind (wpAny_rule (wpAny_pure (f.yes i _ hx ekk)))
  have hall := Classical.em ((key :: st).all carriedByValue = true)
  have hone := Classical.em ((st == [key]) = true)
  have form : (∃ y t, key = .str y t) ∨ (∃ a, key = .ref a) ∨ key = .none ∨ (∃ b, key = .bool b) ∨ ∃ i t, key = .int i t := by
    cases h1
    · exact .inr (.inr (.inl rfl))
    · exact .inr (.inr (.inr (.inl ⟨_, rfl⟩)))
    · exact .inr (.inr (.inr (.inr ⟨_, _, rfl⟩)))
    · exact .inl ⟨_, _, rfl⟩
    · exact .inr (.inl ⟨_, rfl⟩)
  rcases form with ⟨y, t, rfl⟩ | ⟨a, rfl⟩ | rfl | ⟨b, rfl⟩ | ⟨i, t, rfl⟩
  case' inl =>
    by_cases hs : (arr.all fun e => isExactStrKey e.key) = true
    · dsimp only
      rw [if_pos hs]
      exact hstr y t rfl hs
    dsimp only
    rw [if_neg hs]
  all_goals
    try dsimp only
    rcases hall with hall | hall
    · rw [if_pos hall]
      exact plain
    rw [if_neg hall]
    try rw [if_neg unch]
    rcases hone with hone | hone
    case' inl => rw [if_pos hone]; refine wpAny_bind (wpAny_pure ?_)
    case' inr => rw [if_neg hone]; refine wpAny_bind (quiet hk0 sg ?_)
    all_goals
      rw [if_neg (by simp)]
      refine wpAny_bind ?_
      refine wpAny_forIn_list _ (fun rest b s' => s' = s ∧ b.1 = none ∧ rest.Nodup ∧ (∀ i ∈ rest, i ∈ spots w arr k) ∧ ((b.2 = none ∧ ∀ i ∈ spots w arr k, i ∉ rest → ∀ x, xs[i]? = some x → x.1 ≠ k) ∨ ∃ i x, b.2 = some i ∧ i ∉ rest ∧ xs[i]? = some x ∧ x.1 = k)) _ ?_ ?_ _ _ ⟨rfl, rfl, spots_nodup, fun _ h => h, .inl ⟨rfl, fun i h1 h2 => absurd h1 h2⟩⟩
      · rintro i rest ⟨b1, b2⟩ s' ⟨rfl, hb1, nd, hr, inv⟩
        simp only at hb1 inv
        subst hb1
        obtain ⟨x, hx, hh⟩ := spots_at m (hr i (List.mem_cons_self ..))
        have g := m.key x (List.mem_of_getElem? hx)
        rw [m.get, hx]
        show wpAny _ _ (if ((enOf w x).hash == k.hash w) = true then _ else _) _ _ _
        rw [if_pos (by rw [beq_iff_eq]; exact hh)]
        refine wpAny_bind (wpAny_dictEpoch m.at' m.dat (wpAny_bind (eq_two hu g hk0 (wpAny_bind (wpAny_dictEpoch m.at' m.dat ?_)))))
        show wpAny _ _ (if (ep != ep) = true then _ else _) _ _ _
        rw [if_neg (by simp)]
        obtain ⟨ni, nd2⟩ := List.nodup_cons.mp nd
        by_cases hkk : x.1 = k
        · rw [decide_eq_true hkk, if_pos rfl]
          rcases inv with ⟨rfl, _⟩ | ⟨j, y2, _, hj, hy, ey⟩
          · rw [if_neg (by simp)]
            refine wpAny_bind (wpAny_rule ?_)
            split
            · exact wpAny_pure (wpAny_pure (f.yes i x hx hkk))
            · exact wpAny_pure ⟨rfl, rfl, nd2, fun q hq => hr q (List.mem_cons_of_mem _ hq), .inr ⟨i, x, rfl, ni, hx, hkk⟩⟩
          · have := m.same hx hy (by rw [hkk, ey])
            subst this
            exact absurd (List.mem_cons_self ..) hj
        · rw [decide_eq_false hkk, if_neg Bool.false_ne_true]
          refine wpAny_bind (wpAny_rule ?_)
          rw [if_neg (by simp)]
          refine wpAny_pure ⟨rfl, rfl, nd2, fun q hq => hr q (List.mem_cons_of_mem _ hq), ?_⟩
          rcases inv with ⟨e, hno⟩ | ⟨j, y2, e, hj, hy, ey⟩
          · refine .inl ⟨e, fun q q1 q2 y2 hy => ?_⟩
            by_cases hq : q = i
            · subst hq
              rw [hx] at hy
              cases hy
              exact hkk
            · exact hno q q1 (fun hm => (List.mem_cons.mp hm).elim hq q2) y2 hy
          · exact .inr ⟨j, y2, e, fun h => hj (List.mem_cons_of_mem _ h), hy, ey⟩
      · rintro ⟨b1, b2⟩ s' ⟨rfl, hb1, _, _, inv⟩
        simp only at hb1 inv
        subst hb1
        rcases inv with ⟨rfl, hno⟩ | ⟨j, y2, rfl, _, hy, ey⟩
        · exact wpAny_pure (f.no (none_of m fun i hi x hx => hno i hi (by simp) x hx))
        · exact wpAny_pure (f.yes j y2 hy ey)
/-- the object alone -/
def Raw (w : World) (h : Heap) (d : Addr) (xs : List En) : Prop := ∃ o arr ep, h.get? d = some o ∧ o.ExactDict ∧ o.data = .dict arr ep ∧ arr.toList = xs.map (enOf w)
def putE (xs : List En) (k : NestedKey) (u r : Value) : List En := if k ∈ keysOf xs then xs.map (fun x => if x.1 = k then (x.1, x.2.1, r) else x) else xs ++ [(k, u, r)]
theorem putE_keys {u r : Value} : keysOf (putE xs k u r) = if k ∈ keysOf xs then keysOf xs else keysOf xs ++ [k] := by
  unfold putE
  split
  · rw [keysOf, List.map_map]
    refine List.map_congr_left fun x _ => ?_
    show (if x.1 = k then (x.1, x.2.1, r) else x).1 = x.1
    split <;> rfl
  · rw [keysOf, List.map_append]
    rfl
theorem putE_nod {u r : Value} (hn : (keysOf xs).Nodup) : (keysOf (putE xs k u r)).Nodup := by
  rw [putE_keys]
  split
  · exact hn
  · rename_i h
    rw [List.nodup_append]
    refine ⟨hn, by simp, fun a ha b hb e => ?_⟩
    rw [List.mem_singleton.mp hb] at e
    exact h (e ▸ ha)
theorem putE_len {u r : Value} : (putE xs k u r).length ≤ xs.length + 1 := by
  unfold putE
  split
  · rw [List.length_map]
    omega
  · rw [List.length_append, List.length_singleton]
    omega
theorem putE_mem {u r : Value} {x : En} (hx : x ∈ putE xs k u r) : (∃ y ∈ xs, x.1 = y.1 ∧ x.2.1 = y.2.1) ∨ (x.1 = k ∧ x.2.1 = u) := by
  unfold putE at hx
  split at hx
  · obtain ⟨y, hy, rfl⟩ := List.mem_map.mp hx
    refine .inl ⟨y, hy, ?_⟩
    split <;> exact ⟨rfl, rfl⟩
  · rcases List.mem_append.mp hx with h | h
    · exact .inl ⟨x, h, rfl, rfl⟩
    · rw [List.mem_singleton.mp h]
      exact .inr ⟨rfl, rfl⟩
theorem map_at {r : Value} : ∀ {xs : List En} {i : Nat} {x : En}, (keysOf xs).Nodup → xs[i]? = some x → x.1 = k → (xs.map (enOf w)).modify i (fun e => { e with val := r }) = (xs.map fun x => if x.1 = k then (x.1, x.2.1, r) else x).map (enOf w)
  | [], i, x, _, hx, _ => by simp at hx
  | y :: xs, 0, x, hn, hx, e => by
    cases (show some y = some x from hx)
    obtain ⟨n1, _⟩ := List.nodup_cons.mp hn
    have n1 : y.1 ∉ xs.map fun x => x.1 := n1
    have same : (xs.map fun x => if x.1 = k then (x.1, x.2.1, r) else x) = xs := by
      refine (List.map_congr_left fun z hz => ?_).trans (List.map_id' xs)
      rw [if_neg fun ez => n1 (by rw [e, ← ez]; exact List.mem_map_of_mem hz)]
    rw [List.map_cons, List.map_cons, List.map_cons, same, if_pos e]
    rfl
  | y :: xs, i + 1, x, hn, hx, e => by
    obtain ⟨n1, n2⟩ := List.nodup_cons.mp hn
    have n1 : y.1 ∉ xs.map fun x => x.1 := n1
    have hx : xs[i]? = some x := hx
    have hy : ¬ y.1 = k := fun ey => n1 (by rw [ey, ← e]; exact List.mem_map_of_mem (f := fun x : En => x.1) (List.mem_of_getElem? hx))
    rw [List.map_cons, List.map_cons, List.map_cons, if_neg hy, ← map_at n2 hx e]
    rfl
theorem set_at {Q : Unit → Shared → Prop} (hu : A.units + 8 < cLine) (m : Has w s.heap d xs o arr ep) (hk : Good s.heap k key) (hz : xs.length ≤ sizeLine) (q : ∀ h', Raw w h' d (putE xs k key v) → Heap.SameBut d s.heap h' → Q () { s with heap := h', toks := s.toks + k.draws }) :
    wpAny (model prog w) A (dictSet d key v) Q E s := by
  unfold dictSet
  refine wpAny_holding (wpAny_bind (pyHash_key k key A s _ hk.1 (by have := hk.2; omega) ?_))
  unfold dictSetHashed
  have m1 : Has w ({ s with toks := s.toks + k.draws } : Shared).heap d xs o arr ep := m
  refine wpAny_holding (wpAny_bind (find_at (key := key) hu m1 hk ⟨fun no => ?_, fun i x hx e => ?_⟩))
  · have hn : k ∉ keysOf xs := fun hm => by
      obtain ⟨x, hx, e⟩ := List.mem_map.mp hm
      exact no x hx e
    refine wpAny_bind (wpAny_rule (wpAny_updateDictKeys m1.at' m1.dat (q _ ⟨_, _, _, Heap.get?_update_self _ m1.at' (Obj.isFreed_of_dict (Obj.data_mapDictKeys m1.dat _)), m1.ex.mapDictKeys _, Obj.data_mapDictKeys m1.dat _, ?_⟩ (Heap.SameBut.update ..)) (hz := by rw [m1.size]; exact hz)))
    unfold putE
    rw [if_neg hn, Array.toList_push, m.ent, List.map_append]
    rfl
  · have hm : k ∈ keysOf xs := by
      rw [← e]
      exact List.mem_map_of_mem (List.mem_of_getElem? hx)
    refine wpAny_bind (wpAny_rule (wpAny_bind (wpAny_updateDict m1.at' m1.dat (wpAny_point (q _ ⟨_, _, _, Heap.get?_update_self _ m1.at' (Obj.isFreed_of_dict (Obj.data_mapDict m1.dat _)), m1.ex.mapDict _, Obj.data_mapDict m1.dat _, ?_⟩ (Heap.SameBut.update ..))))))
    unfold putE
    rw [if_pos hm, ← map_at m.nod hx e, ← m.ent]
    obtain ⟨l⟩ := arr
    simp
end
end DM
/-! DMb -/
/-! DMb: such a dict as an object of the abstract heap; what is stored; its keys as a list. -/
namespace DM
open PySem PySem.Spec PyProof.Rows L2
def NDO (w : World) (d : Addr) (es : List En) : HO := .ext fun h => (d == sysModules) = false ∧ Raw w h d es
abbrev KeyV (K : PySem.W.Frag) (H : Hp) (k : NestedKey) (y : V) : Prop := Dp K H y k.data
section
variable {X : Cx} {pins : List (Addr × Obj)} {σ : L2.St} {H : Hp} {s : Shared} {d : Addr} {es : List En} {k : NestedKey} {y z : V} {u r : Value}
theorem ndo_ok {P : Program} {w : World} {H : Hp} {h : Heap} (lo : (d == sysModules) = false) (m : Raw w h d es) : ObjOk P w H h d (NDO w d es) := by
  refine ⟨⟨lo, m⟩, ?_, fun h1 h2 p k => ⟨p.1, ?_⟩⟩
  · obtain ⟨o, arr, ep, e, _⟩ := m
    exact ⟨o, e⟩
  · obtain ⟨o, arr, ep, e, r⟩ := p.2
    exact ⟨o, arr, ep, k o e, r⟩
mutual
theorem key_at (I : Inv X pins σ H s) : ∀ (k : NestedKey) (y : V) (u : Value), KeyV X.K H k y → RelV y u → NestedIs s.heap k u
  | .none, _, _, h, r => by
    cases h
    cases r
    exact .none
  | .num i, _, _, h, r => by
    cases h
    obtain ⟨t, rfl⟩ := r
    exact .int _ _
  | .text x, _, _, h, r => by
    cases h
    obtain ⟨t, rfl⟩ := r
    exact .text _ _
  | .tup ks, y, u, h, r => by
    have h : Dp X.K H y (.tuple (NestedKey.datas ks)) := h
    cases h with
    | tup hs ha =>
      cases r
      obtain ⟨its, rv, ⟨o, ho, hc, n, hd⟩, _⟩ := I.tuple hs
      exact .tup ho hc hd (keys_at I ks _ _ ha rv)
theorem keys_at (I : Inv X pins σ H s) : ∀ (ks : List NestedKey) (ys : List V) (us : List Value), DpAll X.K H ys (NestedKey.datas ks) → Vals ys us → NestedAll s.heap ks us
  | [], _, _, h, r => by
    cases h
    cases r
    exact .nil
  | k :: ks, ys, us, h, r => by
    have h : DpAll X.K H ys (k.data :: NestedKey.datas ks) := h
    cases h with
    | cons h1 h2 =>
      cases r with
      | cons r1 r2 => exact .cons (key_at I k _ _ h1 r1) (keys_at I ks _ _ h2 r2)
end
/-- the keys that stand in it -/
structure Keyed (K : PySem.W.Frag) (H : Hp) (es : List En) : Prop where
  key : ∀ x ∈ es, (∃ y, KeyV K H x.1 y ∧ RelV y x.2.1) ∧ x.1.depth ≤ 8
  nod : (keysOf es).Nodup
theorem d_setN {E : Value → Shared → Prop} {Q : Unit → Shared → Prop} (hu : X.A.units + 8 < cLine) (I : Inv X pins σ H s) (hD : H d = some (NDO X.w d es)) (hk : KeyV X.K H k y) (h8 : k.depth ≤ 8) (ry : RelV y u) (g : Keyed X.K H es) (hz : es.length < sizeLine)
    (q : ∀ s', Inv X pins σ (upd H d (NDO X.w d (putE es k u r))) s' → Q () s') : wpAny (model X.prog X.w) X.A (dictSet d u r) Q E s := by
  obtain ⟨⟨lo, o, arr, ep, ho, hx, hd, he⟩, _, _⟩ := (show ObjOk X.prog X.w H s.heap d (NDO X.w d es) from I.hok d _ hD)
  have m : Has X.w s.heap d es o arr ep := ⟨ho, hx, hd, he, fun x hx => ⟨(let ⟨y, h1, h2⟩ := (g.key x hx).1; key_at I _ _ _ h1 h2), (g.key x hx).2⟩, g.nod⟩
  refine set_at hu m ⟨key_at I k y u hk ry, h8⟩ (by omega) fun h' raw sb => q _ (d_write I (by rw [hD]; trivial) sb ?_ (ndo_ok lo raw))
  obtain ⟨o', _, _, e, _⟩ := raw
  exact ⟨o', e⟩
/-- list(d) -/
def rListN (w : World) : List V → Hp → VK → Prop := fun xs H Q => ∃ d es ys, xs = [V.ref d] ∧ H d = some (NDO w d es) ∧ Vals ys (es.map fun x => x.2.1) ∧ es.length ≤ sizeLine ∧ ∀ p, H p = none → Q (.ref p) (upd H p (.lst ys))
theorem call_listN (hc : X.calm = true) : CallR X (.type "list") (rListN X.w) := by
  intro pins s σ H xs us Q I r h
  obtain ⟨d, es, ys, rfl, hD, rv, hz, q⟩ := h
  obtain ⟨u, rfl, rx⟩ := r.one
  cases rx
  obtain ⟨⟨lo, o, arr, ep, ho, hx, hd, he⟩, _, _⟩ := (show ObjOk X.prog X.w H s.heap d (NDO X.w d es) from I.hok d _ hD)
  have ls : arr.size = es.length := by rw [← Array.length_toList, he, List.length_map]
  refine PySem.W.kdl_call (kdl_raw lo hx hd) (I.ok.hd hc) ho (by omega) fun h' tk acc c kp ha it => ?_
  have ea : acc.toList = es.map fun x => x.2.1 := by
    refine List.ext_getElem? fun j => ?_
    rw [List.getElem?_map]
    cases hj : acc.toList[j]? with
    | none =>
      have h1 := List.getElem?_eq_none_iff.mp hj
      rw [Array.length_toList, it.1] at h1
      rw [List.getElem?_eq_none (by omega)]
      rfl
    | some v =>
      obtain ⟨en, hen, hv⟩ := it.2 j v (by rw [← Array.getElem?_toList]; exact hj)
      have hen2 : arr.toList[j]? = some en := by rw [Array.getElem?_toList]; exact hen
      rw [he, List.getElem?_map] at hen2
      obtain ⟨x, hx1, hx2⟩ := DL.map_some hen2
      rw [hx1, hv, ← hx2]
      rfl
  rw [← ea] at rv
  refine ⟨.ref s.heap.objs.size, _, I.laid (t' := tk) (o := .lst ys) kp (Nat.le_refl _) ⟨?_, acc.toList, c, rv, by rw [Array.toArray_toList]; exact ha⟩, rfl, q _ (I.hok.fresh (Nat.le_refl _))⟩
  have e1 := rv.length
  have e2 := congrArg List.length ea
  rw [List.length_map] at e2
  omega
end
end DM
/-! DMc -/
/-! DMc: {key: value for .. in .. for .. in ..}. -/
namespace DM
open PySem PySem.Spec PyProof.Rows L2
abbrev two (kx vx t1 e1 t2 e2 : Expr) (sc : Scope) (pos : Pos) : Expr := .DictComp kx vx [⟨t1, e1, [], 0⟩, ⟨t2, e2, [], 0⟩] sc pos
section
variable {kx vx t1 e1 t2 e2 : Expr} {sc : Scope} {pos : Pos}
theorem inner_turn (it : Value) (D : Addr) (env : Env) : compTurn (two kx vx t1 e1 t2 e2 sc pos) 1 it (.ref D) env = (do
    standAt e2.pos
    match ← pyNext it with
    | none => pure (.done .next)
    | some v =>
      letOwnedTupleGo t2 it v
      assign t2 env v
      let mut ok := true
      for c in ([] : List Expr) do
        if ok then ok ← isTrue c env (eval c env)
      if ok then
        (do
          let kv ← eval kx env
          let vv ← holding [kv] (eval vx env)
          standAt { kx.pos with endLine := vx.pos.endLine, endCol := vx.pos.endCol }
          holding [kv, vv] (dictSet D kv vv))
      again (.compLoop (two kx vx t1 e1 t2 e2 sc pos) 1 it (.ref D) env)) := by rfl
theorem outer_turn (it acc : Value) (env : Env) : compTurn (two kx vx t1 e1 t2 e2 sc pos) 0 it acc env = (do
    standAt e1.pos
    match ← pyNext it with
    | none => pure (.done .next)
    | some v =>
      letOwnedTupleGo t1 it v
      assign t1 env v
      let mut ok := true
      for c in ([] : List Expr) do
        if ok then ok ← isTrue c env (eval c env)
      if ok then
        let x ← eval e2 env
        standAt e2.pos
        let x ← foldedSetIterable e2 env x
        let _ ← runOwn (.compStart (two kx vx t1 e1 t2 e2 sc pos) 1 (← holding [x] (pyIter x)) acc env) env
      again (.compLoop (two kx vx t1 e1 t2 e2 sc pos) 0 it acc env)) := by rfl
/-- what a turn owes that stores y under a key: its value, then the rest -/
def PutN (K : PySem.W.Frag) (w : World) (D : Addr) (y z : V) (H : Hp) (Nx : Hp → Prop) : Prop := ∃ (es : List En) (k : NestedKey), KeyV K H k y ∧ k.depth ≤ 8 ∧ H D = some (NDO w D es) ∧ es.length < sizeLine ∧ Keyed K H es ∧ ∀ u r, RelV y u → RelV z r → Nx (upd H D (NDO w D (putE es k u r)))
/-- the inner loop -/
def Inn (K : PySem.W.Frag) (w : World) (D : Addr) (g2 : TG) (tk tv : TE) (vs2 : List Nat) (σ2 : L2.St) (J2 : It) (Out : Hp → Prop) (W2 : Nat → Nat → Hp → Prop) : Prop :=
  ∀ i m H, W2 i m H → (J2.stop i H ∧ Out H) ∨ (J2.go i H ∧ ∃ Nx : Hp → Prop, (∀ H', Nx H' → ∃ m', m' < m ∧ W2 (i + 1) m' H') ∧ ∀ x H', J2.yld i H x H' → g2 x (wipe σ2 vs2) H' fun σ3 H5 => wipe σ3 vs2 = wipe σ2 vs2 ∧ tk σ3 H5 fun y H7 => tv σ3 H7 fun z H8 => PutN K w D y z H8 Nx)
theorem inner_loop {B : Cx} {pins : List (Addr × Obj)} {σ2 : L2.St} {fp : List Addr} {it D : Addr} {J : It} {tn : Nat → Heap → Prop} {g : TG} {tk tv : TE} {vs : List Nat} {Out : Hp → Prop} {W : Nat → Nat → Hp → Prop} {R : Result → Shared → Prop} (hF : B.xe = fun _ _ => False) (hc : B.calm = true) (hu : B.A.units + 8 < cLine)
    (T : Turn B.prog B.w B.K t2 J fp it tn) (pg : PG B t2 g) (pk : PE B kx tk) (pv : PE B vx tv) (inn : Inn B.K B.w D g tk tv vs σ2 J Out W)
    (fin : ∀ s H, Inv B pins (wipe σ2 vs) H s → Out H → R (.ok .next) s)
    {s : Shared} {H : Hp} {m : Nat} (I : Inv B pins (wipe σ2 vs) H s) (st : tn 0 s.heap) (nf : ∀ b ∈ fp, FpOk B pins H b) (w0 : W 0 m H) :
    codeAny (model B.prog B.w) B.A (.compLoop (two kx vx t1 e1 t2 e2 sc pos) 1 (.ref it) (.ref D) B.env) R s := by
  have low : ∀ {α : Type} {t : Sem α} {Q Q' : α → Shared → Prop} {E : Value → Shared → Prop} {s : Shared}, wpAny (model B.prog B.w) B.A t Q B.xe s → (∀ a s, Q a s → Q' a s) → wpAny (model B.prog B.w) B.A t Q' E s := fun h k => thnF (by rw [hF] at h; exact h) k
  refine codeAny_loop rfl (fun n s' => ∃ i H', Inv B pins (wipe σ2 vs) H' s' ∧ tn i s'.heap ∧ (∀ b ∈ fp, H' b = none) ∧ W i n H') ?_ m ⟨0, H, I, st, fun b hb => (nf b hb).1, w0⟩
  rintro n s5 ⟨i, H5, I5, st5, n5, w5⟩
  have fpk : ∀ {H' : Hp}, (∀ b ∈ fp, H' b = none) → ∀ b ∈ fp, FpOk B pins H' b := fun h b hb => ⟨h b hb, (nf b hb).2⟩
  show wpAny _ B.A ((compTurn (two kx vx t1 e1 t2 e2 sc pos) 1 (.ref it) (.ref D) B.env).onRaise (fun x => do noteFrame x B.env; theTreesLotGoes x)) _ _ s5
  refine wpAny_noted ?_
  rw [inner_turn]
  refine wpAny_bind (wpAny_standAt (wpAny_bind ?_))
  rcases inn i n H5 w5 with ⟨stop, out⟩ | ⟨go, Nx, hNx, step⟩
  · refine thnF (T.done B rfl rfl rfl hc i pins s5 _ H5 (fun _ _ => False) I5 (fpk n5) st5 stop) fun r s6 ⟨hr, I6⟩ => ?_
    subst hr
    exact wpAny_pure (fin s6 H5 I6 out)
  · refine thnF (T.item B rfl rfl rfl hc i pins s5 _ H5 (fun _ _ => False) I5 (fpk n5) st5 go) fun r s6 ⟨u, hr, h6⟩ => ?_
    subst hr
    refine wpAny_bind (thnF h6 fun _ s7 ⟨x, H7, I7, r7, y7, st7, n7⟩ => ?_)
    have I7p := I7.pinned (fpk n7) (T.obj _ _ st7)
    refine wpAny_bind (low (pg.run _ s7 _ H7 x u _ I7p r7 (step x H7 y7)) fun _ s8 ⟨σ8, H8, I8, hw8, q8⟩ => ?_)
    dsimp only
    rw [List.forIn_nil]
    refine wpAny_bind (wpAny_pure ?_)
    rw [if_pos rfl]
    refine wpAny_bind ((wpAny_bind (low (pk.run _ s8 σ8 H8 _ I8 q8) fun kv s9 ⟨y, H9, I9, r9, q9⟩ => ?_)))
    refine wpAny_bind (wpAny_holding (low (pv.run _ s9 σ8 H9 _ I9 q9) fun vv s10 ⟨z, H10, I10, r10, es, k, hk, h8, hD, hz, gk, nx⟩ => ?_))
    refine wpAny_bind (wpAny_standAt (wpAny_holding (d_setN hu I10 hD hk h8 r9 gk hz fun s11 I11 => ?_)))
    obtain ⟨m', hm, w'⟩ := hNx _ (nx kv vv r9 r10)
    have pinned : ∀ b ∈ fp, ∀ o, s7.heap.get? b = some o → s11.heap.get? b = some o ∧ (upd H10 D (NDO B.w D (putE es k kv vv))) b = none := fun b hb o e =>
      let z := I11.pin (b, o) (List.mem_append_right _ (List.mem_append_right _ (mem_pinsAt hb e)))
      ⟨z.1, z.2.1⟩
    have hl : (wipe σ2 vs).length = σ8.length := by rw [← hw8, wipe_length]
    refine wpAny_pure ⟨rfl, m', hm, i + 1, _, I11.unpinned.weak hl (fun j v e => (wipe_some (by rw [hw8]; exact e)).1), T.keep _ _ _ st7 fun b hb o e => (pinned b hb o e).1, fun b hb => ?_, w'⟩
    obtain ⟨o, e, _⟩ := T.obj _ _ st7 b hb
    exact (pinned b hb o e).2
def tTwo (K : PySem.W.Frag) (w : World) (wi : TI) (g1 : TG) (wi2 : TI) (g2 : TG) (tk tv : TE) (vs vs2 : List Nat) : TE := fun σ H Q => wi σ H fun J H1 => ∀ D, H1 D = none → ∃ W : Nat → Nat → Hp → Prop, (∃ m, W 0 m (upd H1 D (NDO w D []))) ∧ ∀ i m H, W i m H →
  (J.stop i H ∧ Q (.ref D) H) ∨ (J.go i H ∧ ∃ Nx : Hp → Prop, (∀ H', Nx H' → ∃ m', m' < m ∧ W (i + 1) m' H') ∧ ∀ x H', J.yld i H x H' → g1 x (wipe σ vs) H' fun σ2 H2 => wipe σ2 vs = wipe σ vs ∧
    wi2 σ2 H2 fun J2 H4 => ∃ W2 : Nat → Nat → Hp → Prop, (∃ m, W2 0 m H4) ∧ Inn K w D g2 tk tv vs2 σ2 J2 Nx W2)
variable {X : Cx}
/-- the loops start -/
theorem start_in {prog : Program} {w : World} {A : Around} {R : Result → Shared → Prop} {s : Shared} {it acc : Value} {env : Env} (h0 : codeAny (model prog w) A (.compLoop (two kx vx t1 e1 t2 e2 sc pos) 1 it acc env) R s)
    (h : wpAny (model prog w) A (pyIter it) (fun it' s' => codeAny (model prog w) A (.compLoop (two kx vx t1 e1 t2 e2 sc pos) 1 it' acc env) R s') (notedBy (model prog w) A env fun x s' => R (.error x) s') s) :
    codeAny (model prog w) A (.compStart (two kx vx t1 e1 t2 e2 sc pos) 1 it acc env) R s := by
  refine codeAny_of_tree ?_
  show wpAny _ A ((compStart (two kx vx t1 e1 t2 e2 sc pos) 1 it acc env).onRaise (fun x => do noteFrame x env; standAt theWindowsPlace)) _ _ s
  refine wpAny_notedAt ?_
  unfold compStart
  show wpAny _ A (ask >>= _) _ _ s
  refine wpAny_bind (wpAny_askSetting (wpAny_ite ?_))
  split
  · first | exact wpAny_pure (And.intro rfl h0) | exact wpAny_bind (wpAny_pure (wpAny_pure (And.intro rfl h0)))
  · refine wpAny_bind (wpAny_rule ?_)
    show wpAny _ _ (standAt e2.pos >>= _) _ _ s
    exact wpAny_bind (wpAny_standAt (wpAny_bind (wpAny_mono h (fun it' s' q => wpAny_pure (And.intro rfl q)) fun _ _ x => x)))
theorem wipe_keep {σ : L2.St} {j : Nat} {x : Option V} : ∀ {vs : List Nat}, j ∉ vs → σ[j]? = some x → (wipe σ vs)[j]? = some x
  | [], _, h => h
  | v :: vs, hn, h => by
    rw [List.mem_cons, not_or] at hn
    show ((wipe σ vs).set v none)[j]? = _
    rw [List.getElem?_set_ne (Ne.symm hn.1)]
    exact wipe_keep hn.2 h
theorem two_core {pins : List (Addr × Obj)} {s : Shared} {σ : L2.St} {H : Hp} {Q : VK} {own : List (Str × Nat)} {pos' : Pos} {wi wi2 : TI} {g1 g2 : TG} {tk tv : TE} {vs2 : List Nat} {use : Option (Value → Sem Unit)} {Qf : Value → Shared → Prop}
    (hc : X.calm = true) (hu : X.A.units + 8 < cLine) (hN : X.N.Nodup) (I : Inv X pins σ H s) (hi : PI X t1 e1 wi) (ok : BlkOk X.N X.env.scope sc own)
    (hg : ∀ (s : Shared) (H : Hp) (C : Addr) (cl : List (Str × Addr)) (fp : List Addr), PG (X.blk s H sc (compEnvC sc cl C X.env) fp) t1 g1)
    (hi2 : ∀ (s : Shared) (H : Hp) (C : Addr) (cl : List (Str × Addr)) (fp : List Addr), PI (X.blk s H sc (compEnvC sc cl C X.env) fp) t2 e2 wi2)
    (hg2 : ∀ (s : Shared) (H : Hp) (C : Addr) (cl : List (Str × Addr)) (fp : List Addr), PG (X.blk s H sc (compEnvC sc cl C X.env) fp) t2 g2)
    (hk : ∀ (s : Shared) (H : Hp) (C : Addr) (cl : List (Str × Addr)) (fp : List Addr), PE (X.blk s H sc (compEnvC sc cl C X.env) fp) kx tk)
    (hv : ∀ (s : Shared) (H : Hp) (C : Addr) (cl : List (Str × Addr)) (fp : List Addr), PE (X.blk s H sc (compEnvC sc cl C X.env) fp) vx tv)
    (hvs : ∀ i ∈ vs2, i ∈ own.map (·.2)) (hs : ∀ x, foldedSetIterable e1 X.env x = pure x) (hs2 : ∀ env x, foldedSetIterable e2 env x = pure x)
    (h : tTwo X.K X.w wi g1 wi2 g2 tk tv (own.map (·.2)) vs2 σ H Q)
    (hRR : ∀ D C s' m H', Inv X pins σ H' s' → Q (.ref D) H' → s'.heap.Ns C m → FpOk X pins H' C → compPost (model X.prog X.w) X.A X.xe use Qf (.ref D) C (.ok .next) s') :
    wpAny (model X.prog X.w) X.A (comprehension (two kx vx t1 e1 t2 e2 sc pos) sc X.env pos' newDict false (eval e1 X.env) use) Qf X.xe s := by
  have hfree : ∀ y ∈ sc.names, y.2 = .free → ∃ c, X.env.cells.lookup y.1 = some c := fun y hy e => (ok.free y hy e).elim (fun q => I.ok.has _ (.inl q)) fun q => I.ok.has _ (.inr q)
  refine wpAny_comprehension_free (use := use) rfl hs (closure_ok hfree) ok.kind (fun y hy e => by rw [ok.uniq y hy, e]) (thn (hi.run pins s σ H _ I h) fun xv s1 hx => thn hx fun itv s2 ⟨it, fp, tn, J, H2, e, I2, T, st2, f2, q⟩ => ?_)
  subst e
  refine wpAny_newObj_type (newEnv_comp ?_)
  generalize hD : s2.heap.objs.size = D
  have hDn : H2 D = none := I2.hok.fresh (Nat.le_of_eq hD)
  obtain ⟨W, ⟨m0, w0⟩, turn⟩ := q D hDn
  generalize hs3 : ({ s2 with heap := s2.heap.push { cls := .type "dict", data := .dict #[] } } : Shared) = s3
  have lo : (D == sysModules) = false := by
    rw [← hD]
    exact beq_false_of_ne fun e => absurd I2.big (by rw [e]; exact Nat.lt_irrefl _)
  have I3 : Inv X pins σ (upd H2 D (NDO X.w D [])) s3 := by
    rw [← hs3]
    refine I2.laid (t' := s2.toks) (fun b o e => Heap.get?_push_of_some _ e) (Nat.le_of_eq hD) (ndo_ok lo ⟨{ cls := .type "dict", data := .dict #[] }, #[], 0, ?_, ⟨rfl, rfl, rfl⟩, rfl, rfl⟩)
    rw [← hD]
    exact Heap.get?_push_size _ rfl
  have h3 : s3.heap = s2.heap.push { cls := .type "dict", data := .dict #[] } := by rw [← hs3]
  have sz : ∀ b ∈ fp, b < s2.heap.objs.size := fun b hb => let ⟨_, e, _⟩ := T.obj _ _ st2 b hb; Heap.lt_size e
  have f3 : ∀ b ∈ fp, FpOk X pins (upd H2 D (NDO X.w D [])) b ∧ b < s3.heap.objs.size := fun b hb => by
    have hlt := sz b hb
    exact ⟨⟨by rw [upd_ne (by rw [← hD]; exact Nat.ne_of_lt hlt)]; exact (f2 b hb).1, (f2 b hb).2⟩, by rw [h3, Heap.size_push]; exact Nat.lt_succ_of_lt hlt⟩
  have st3 : tn 0 s3.heap := T.keep _ _ _ st2 fun b _ o e => by rw [h3]; exact Heap.get?_push_of_some _ e
  have I4 := block_start I3 ok hN f3
  have pg := hg s3 (upd H2 D (NDO X.w D [])) s3.heap.objs.size (cellsFrom (s3.heap.objs.size + 1) sc.names (cloFrom X.env.cells sc.names [])) fp
  have pi2 := hi2 s3 (upd H2 D (NDO X.w D [])) s3.heap.objs.size (cellsFrom (s3.heap.objs.size + 1) sc.names (cloFrom X.env.cells sc.names [])) fp
  have pg2 := hg2 s3 (upd H2 D (NDO X.w D [])) s3.heap.objs.size (cellsFrom (s3.heap.objs.size + 1) sc.names (cloFrom X.env.cells sc.names [])) fp
  have pk := hk s3 (upd H2 D (NDO X.w D [])) s3.heap.objs.size (cellsFrom (s3.heap.objs.size + 1) sc.names (cloFrom X.env.cells sc.names [])) fp
  have pv := hv s3 (upd H2 D (NDO X.w D [])) s3.heap.objs.size (cellsFrom (s3.heap.objs.size + 1) sc.names (cloFrom X.env.cells sc.names [])) fp
  show codeAny _ _ (.compStart (two kx vx t1 e1 t2 e2 sc pos) 0 (.ref it) (.ref D) (compEnvC sc (cellsFrom (s3.heap.objs.size + 1) sc.names (cloFrom X.env.cells sc.names [])) s3.heap.objs.size X.env)) (compPost (model X.prog X.w) X.A X.xe use Qf (.ref D) s3.heap.objs.size) { s3 with heap := pushCells (s3.heap.push { cls := .type "dict", data := .dict #[] }) sc.names }
  have nfp : ∀ b ∈ fp, (upd H2 D (NDO X.w D [])) b = none := fun b hb => (f3 b hb).1.1
  generalize hce : compEnvC sc (cellsFrom (s3.heap.objs.size + 1) sc.names (cloFrom X.env.cells sc.names [])) s3.heap.objs.size X.env = ce at I4 pg pi2 pg2 pk pv ⊢
  have cL : ce.locals = s3.heap.objs.size := by subst hce; rfl
  generalize hH3 : upd H2 D (NDO X.w D []) = H3 at I3 I4 pg pi2 pg2 pk pv w0 nfp f3
  generalize hs4 : ({ s3 with heap := pushCells (s3.heap.push { cls := .type "dict", data := .dict #[] }) sc.names } : Shared) = s4 at I4 ⊢
  have st4 : tn 0 s4.heap := T.keep _ _ _ st3 fun b _ o e => by rw [← hs4]; exact pushCells_keeps _ _ _ _ (Heap.get?_push_of_some _ e)
  have stat : ∀ {σ' : L2.St} {H' : Hp} {s' : Shared}, Inv (X.blk s3 H3 sc ce fp) [] σ' H' s' → (∀ b ∈ fp, H' b = none) → ∀ b ∈ fp, FpOk (X.blk s3 H3 sc ce fp) [] H' b := fun {σ' H' s'} I' hn b hb =>
    ⟨hn b hb, (I'.ok.exf b hb).1, I'.ok.exfs b hb, .inl hb, (fun x c e => (I'.ok.exf b hb).2 x c e), fun p hp => absurd (show p ∈ ([] : List (Addr × Obj)) ++ [] from hp) (by simp)⟩
  have loop : codeAny (model X.prog X.w) X.A (.compLoop (two kx vx t1 e1 t2 e2 sc pos) 0 (.ref it) (.ref D) ce) (compPost (model X.prog X.w) X.A X.xe use Qf (.ref D) s3.heap.objs.size) s4 := by
    refine codeAny_loop rfl (fun n s' => ∃ i H', Inv (X.blk s3 H3 sc ce fp) [] (wipe σ (own.map (·.2))) H' s' ∧ tn i s'.heap ∧ (∀ b ∈ fp, H' b = none) ∧ W i n H') ?_ m0 ⟨0, H3, I4, st4, nfp, w0⟩
    rintro n s5 ⟨i, H5, I5, st5, n5, w5⟩
    show wpAny _ X.A ((compTurn (two kx vx t1 e1 t2 e2 sc pos) 0 (.ref it) (.ref D) ce).onRaise (fun x => do noteFrame x ce; theTreesLotGoes x)) _ _ s5
    refine wpAny_noted ?_
    rw [outer_turn]
    refine wpAny_bind (wpAny_standAt (wpAny_bind ?_))
    rcases turn i n H5 w5 with ⟨stop, qq⟩ | ⟨go, Nx, hNx, step⟩
    · refine thnF (T.done (X.blk s3 H3 sc ce fp) rfl rfl rfl hc i [] s5 _ H5 (fun _ _ => False) I5 (stat I5 n5) st5 stop) fun r s6 ⟨hr, I6⟩ => ?_
      subst hr
      have I7 : Inv X pins σ H5 s6 := I3.call' (ch := fp) I6.os I6.base I6.hok I6.bare fun b hb => ⟨(f3 b hb).1.2.2.2.1, (f3 b hb).1.2.1, (f3 b hb).1.2.2.2.2.1, (f3 b hb).1.2.2.2.2.2⟩
      have nC : H5 s3.heap.objs.size = none := by
        rw [← cL]
        exact I6.free
      obtain ⟨m, hn, _⟩ := I6.loc
      have hn : s6.heap.Ns ce.locals m := hn
      rw [cL] at hn
      exact wpAny_pure (hRR D s3.heap.objs.size s6 m H5 I7 qq hn (I3.fpOk (Nat.le_refl _) nC))
    · refine thnF (T.item (X.blk s3 H3 sc ce fp) rfl rfl rfl hc i [] s5 _ H5 (fun _ _ => False) I5 (stat I5 n5) st5 go) fun r s6 ⟨u, hr, h6⟩ => ?_
      subst hr
      refine wpAny_bind (thnF h6 fun _ s7 ⟨x, H7, I7, r7, y7, st7, n7⟩ => ?_)
      have I7p := I7.pinned (stat I7 n7) (T.obj _ _ st7)
      refine wpAny_bind (thnF (pg.run _ s7 _ H7 x u _ I7p r7 (step x H7 y7)) fun _ s8 ⟨σ8, H8, I8, hw8, q8⟩ => ?_)
      dsimp only
      rw [List.forIn_nil]
      refine wpAny_bind (wpAny_pure ?_)
      rw [if_pos rfl]
      refine wpAny_bind (thnF (pi2.run _ s8 σ8 H8 _ I8 q8) fun xv s9 hx => ?_)
      refine wpAny_bind (wpAny_standAt ?_)
      rw [hs2]
      refine wpAny_bind (wpAny_pure ?_)
      refine wpAny_bind (wpAny_holding (thnF hx fun itv2 s10 ⟨it2, fp2, tn2, J2, H10, e, I10, T2, st10, f10, W2, ⟨m2, w2⟩, inn⟩ => ?_))
      subst e
      refine wpAny_bind (wpAny_runOwn ?_)
      have hl8 : (wipe σ (own.map (·.2))).length = σ8.length := by rw [← hw8, wipe_length]
      have inner := fun R fin => inner_loop (kx := kx) (vx := vx) (t1 := t1) (e1 := e1) (t2 := t2) (e2 := e2) (sc := sc) (pos := pos) (B := X.blk s3 H3 sc ce fp) (R := R) rfl hc hu T2 pg2 pk pv inn fin (I10.weak (by rw [wipe_length]) fun j v e => (wipe_some e).1) st10 f10 w2
      refine start_in (inner _ fun s11 H11 I11 out => ?_) (T2.self _ 0 _ _ _ st10 (inner _ fun s11 H11 I11 out => ?_))
      all_goals
        obtain ⟨m', hm, w'⟩ := hNx H11 out
        have pinned : ∀ b ∈ fp, ∀ o, s7.heap.get? b = some o → s11.heap.get? b = some o ∧ H11 b = none := fun b hb o e =>
          let z := I11.pin (b, o) (List.mem_append_right _ (List.mem_append_right _ (mem_pinsAt hb e)))
          ⟨z.1, z.2.1⟩
        refine wpAny_pure ⟨rfl, m', hm, i + 1, H11, (I11.unpinned (pins := [])).weak (by rw [hl8, wipe_length]) (fun j v e => ?_), T.keep _ _ _ st7 fun b hb o e => (pinned b hb o e).1, fun b hb => ?_, w'⟩
        · rw [← hw8] at e
          obtain ⟨g1, g2⟩ := wipe_some e
          exact wipe_keep (fun hm => g2 (hvs j hm)) g1
        · obtain ⟨o, e, _⟩ := T.obj _ _ st7 b hb
          exact (pinned b hb o e).2
  exact codeAny_compStart_dict loop (T.self X.A 0 _ _ _ st4 loop)
theorem pe_two {own : List (Str × Nat)} {wi wi2 : TI} {g1 g2 : TG} {tk tv : TE} {vs2 : List Nat} (hc : X.calm = true) (hu : X.A.units + 8 < cLine) (hN : X.N.Nodup) (hi : PI X t1 e1 wi) (ok : BlkOk X.N X.env.scope sc own) (hvs : ∀ i ∈ vs2, i ∈ own.map (·.2))
    (hg : ∀ (s : Shared) (H : Hp) (C : Addr) (cl : List (Str × Addr)) (fp : List Addr), PG (X.blk s H sc (compEnvC sc cl C X.env) fp) t1 g1)
    (hi2 : ∀ (s : Shared) (H : Hp) (C : Addr) (cl : List (Str × Addr)) (fp : List Addr), PI (X.blk s H sc (compEnvC sc cl C X.env) fp) t2 e2 wi2)
    (hg2 : ∀ (s : Shared) (H : Hp) (C : Addr) (cl : List (Str × Addr)) (fp : List Addr), PG (X.blk s H sc (compEnvC sc cl C X.env) fp) t2 g2)
    (hk : ∀ (s : Shared) (H : Hp) (C : Addr) (cl : List (Str × Addr)) (fp : List Addr), PE (X.blk s H sc (compEnvC sc cl C X.env) fp) kx tk)
    (hv : ∀ (s : Shared) (H : Hp) (C : Addr) (cl : List (Str × Addr)) (fp : List Addr), PE (X.blk s H sc (compEnvC sc cl C X.env) fp) vx tv)
    (hs : ∀ x, foldedSetIterable e1 X.env x = pure x := by intro _; rfl) (hs2 : ∀ env x, foldedSetIterable e2 env x = pure x := by intro _ _; rfl) : PE X (two kx vx t1 e1 t2 e2 sc pos) (tTwo X.K X.w wi g1 wi2 g2 tk tv (own.map (·.2)) vs2) := by
  refine ⟨fun pins s σ H Q I h => ?_⟩
  rw [arm_eval_DictComp]
  refine two_core hc hu hN I hi ok hg hi2 hg2 hk hv hvs hs hs2 h fun D C s' m H' I' q hn f => ⟨m, hn, fun h'' sb => ?_⟩
  obtain ⟨f0, f1, f2, f3, f4, f5⟩ := f
  exact ⟨.ref D, H', I'.turned (t' := s'.toks) (fun b o hb e => (sb.2 b hb).trans e) f0 f1 f3 f4 f5, rfl, q⟩
end
end DM
/-! DMd -/
/-! DMd: the keys of such a dict, as data. -/
namespace DL
open PySem PySem.Spec PyProof.Rows L2 DM
variable {F : Hp} {K : PySem.W.Frag}
mutual
def nk : D → Option NestedKey
  | .non => some .none
  | .int i => some (.num i)
  | .str s => if (D.str s).flat = true then some (.text s) else none
  | .tup xs => (nks xs).map .tup
  | _ => none
def nks : List D → Option (List NestedKey)
  | [] => some []
  | d :: ds => (nk d).bind fun k => (nks ds).map (k :: ·)
end
mutual
theorem nk_py : ∀ {d : D} {k : NestedKey}, nk d = some k → d.py = k.data ∧ d.flat = true
  | .non, _, h => by cases h; exact ⟨rfl, rfl⟩
  | .int _, _, h => by cases h; exact ⟨rfl, rfl⟩
  | .str _, _, h => by
    obtain ⟨h1, h2⟩ := ifo h
    cases h2
    exact ⟨rfl, h1⟩
  | .tup xs, k, h => by
    unfold nk at h
    obtain ⟨ks, e, rfl⟩ := map_some h
    obtain ⟨h1, h2⟩ := nks_py e
    unfold D.py D.flat NestedKey.data
    exact ⟨by rw [h1], h2⟩
  | .bl _, _, h => by cases h
  | .lst _, _, h => by cases h
  | .rol _, _, h => by cases h
  | .dct _ _, _, h => by cases h
  | .loc _, _, h => by cases h
theorem nks_py : ∀ {ds : List D} {ks : List NestedKey}, nks ds = some ks → D.pys ds = NestedKey.datas ks ∧ D.flats ds = true
  | [], _, h => by cases h; exact ⟨rfl, rfl⟩
  | d :: ds, _, h => by
    unfold nks at h
    obtain ⟨k, e, h⟩ := bindS h
    obtain ⟨ks, e2, rfl⟩ := map_some h
    obtain ⟨h1, h2⟩ := nk_py e
    obtain ⟨g1, g2⟩ := nks_py e2
    unfold D.pys D.flats NestedKey.datas
    exact ⟨by rw [h1, g1], by rw [h2, g2]; rfl⟩
end
theorem key_of {μ : List Addr} {S : Sto} {H G : Hp} {v : V} {d : D} {k : NestedKey} (q : Rp K μ G v d) (r : Rel K F μ S H G) (h : nk d = some k) : KeyV K H k v := by
  obtain ⟨h1, h2⟩ := nk_py h
  have := Rp.dp r.sub q h2
  rwa [h1] at this
/-- the keys that came, each once -/
def addK (ks : List D) (d : D) : Option (List D) := (nk d).bind fun k => if k.depth ≤ 8 ∧ ks.length < 1000000 then some (if decide (some k ∈ ks.map nk) = true then ks else ks ++ [d]) else none
structure Ks (K : PySem.W.Frag) (μ : List Addr) (G : Hp) (es : List En) (ks : List D) : Prop where
  val : ∃ ys, RpA K μ G ys ks ∧ Vals ys (es.map fun x => x.2.1)
  eq : ks.map nk = es.map fun x => some x.1
  nod : (keysOf es).Nodup
  dp : ∀ x ∈ es, x.1.depth ≤ 8
theorem Ks.mono {μ μ' : List Addr} {G G' : Hp} {es : List En} {ks : List D} (h : Ks K μ G es ks) (p : Pf μ μ') (e : Ex G G') : Ks K μ' G' es ks := ⟨let ⟨ys, a, b⟩ := h.val; ⟨ys, a.mono p e, b⟩, h.eq, h.nod, h.dp⟩
theorem Ks.len {μ : List Addr} {G : Hp} {es : List En} {ks : List D} (h : Ks K μ G es ks) : es.length = ks.length := by
  have := congrArg List.length h.eq
  rw [List.length_map, List.length_map] at this
  exact this.symm
theorem keyed_of {μ : List Addr} {S : Sto} {H G : Hp} (r : Rel K F μ S H G) : ∀ {es : List En} {ks : List D} {ys : List V}, RpA K μ G ys ks → Vals ys (es.map fun x => x.2.1) → (ks.map nk = es.map fun x => some x.1) → ∀ x ∈ es, ∃ y, KeyV K H x.1 y ∧ L2.RelV y x.2.1
  | [], _, _, _, _, _, x, hx => by cases hx
  | e :: es, ks, ys, ra, rv, he, x, hx => by
    cases rv with
    | cons r1 rs =>
      cases ra with
      | cons q1 qs =>
        rw [List.map_cons, List.map_cons, List.cons.injEq] at he
        rcases List.mem_cons.mp hx with rfl | hx
        · exact ⟨_, key_of q1 r he.1, r1⟩
        · exact keyed_of r qs rs he.2 x hx
theorem Ks.keyed {μ : List Addr} {S : Sto} {H G : Hp} {es : List En} {ks : List D} (h : Ks K μ G es ks) (r : Rel K F μ S H G) : Keyed K H es :=
  let ⟨_, a, b⟩ := h.val
  ⟨fun x hx => ⟨keyed_of r a b h.eq x hx, h.dp x hx⟩, h.nod⟩
theorem Ks.put {μ : List Addr} {G : Hp} {es : List En} {ks ks' : List D} {d : D} {k : NestedKey} {y : V} {u r : Value} (h : Ks K μ G es ks) (hk : nk d = some k) (h8 : k.depth ≤ 8) (q : Rp K μ G y d) (rv : L2.RelV y u)
    (e : ks' = if decide (some k ∈ ks.map nk) = true then ks else ks ++ [d]) : Ks K μ G (putE es k u r) ks' := by
  have hm : (some k ∈ ks.map nk) ↔ k ∈ keysOf es := by
    rw [h.eq]
    constructor
    · intro hh
      obtain ⟨x, hx, ex⟩ := List.mem_map.mp hh
      exact List.mem_map.mpr ⟨x, hx, Option.some.inj ex⟩
    · intro hh
      obtain ⟨x, hx, ex⟩ := List.mem_map.mp hh
      exact List.mem_map.mpr ⟨x, hx, by rw [ex]⟩
  obtain ⟨ys, ra, rr⟩ := h.val
  subst e
  by_cases hk2 : k ∈ keysOf es
  · rw [decide_eq_true (hm.mpr hk2), if_pos rfl]
    have eo : putE es k u r = es.map fun x => if x.1 = k then (x.1, x.2.1, r) else x := if_pos hk2
    have e1 : (putE es k u r).map (fun x => x.2.1) = es.map fun x => x.2.1 := by
      rw [eo, List.map_map]
      refine List.map_congr_left fun x _ => ?_
      show (if x.1 = k then (x.1, x.2.1, r) else x).2.1 = x.2.1
      split <;> rfl
    have e2 : (putE es k u r).map (fun x => some x.1) = es.map fun x => some x.1 := by
      rw [eo, List.map_map]
      refine List.map_congr_left fun x _ => ?_
      show some (if x.1 = k then (x.1, x.2.1, r) else x).1 = some x.1
      split <;> rfl
    refine ⟨⟨ys, ra, by rw [e1]; exact rr⟩, by rw [e2]; exact h.eq, putE_nod h.nod, fun x hx => ?_⟩
    rcases putE_mem hx with ⟨z, hz, e, _⟩ | ⟨e, _⟩
    · rw [e]
      exact h.dp z hz
    · rw [e]
      exact h8
  · rw [decide_eq_false (fun q => hk2 (hm.mp q)), if_neg Bool.false_ne_true]
    have eo : putE es k u r = es ++ [(k, u, r)] := if_neg hk2
    refine ⟨⟨ys ++ [y], ra.app (.cons q .nil), ?_⟩, ?_, putE_nod h.nod, fun x hx => ?_⟩
    · rw [eo, List.map_append]
      exact rr.append (.cons rv .nil)
    · rw [eo, List.map_append, List.map_append, h.eq, List.map_cons, List.map_nil, hk]
      rfl
    · rcases putE_mem hx with ⟨z, hz, e, _⟩ | ⟨e, _⟩
      · rw [e]
        exact h.dp z hz
      · rw [e]
        exact h8
/-! ### the two loops -/
def inL (g2 : MG) (mk : ME) (ρ : Env') : List D → List D → Sto → Option (List D × Sto)
  | [], acc, S => some (acc, S)
  | d :: ds, acc, S => (g2 d ρ).bind fun ρ2 => (mk ρ2 S).bind fun q => (addK acc q.1).bind fun acc' => inL g2 mk ρ ds acc' q.2
def outL (g1 : MG) (s2 : MA) (g2 : MG) (mk : ME) (vs2 : List Nat) (ρ : Env') : List D → List D → Sto → Option (List D × Sto)
  | [], acc, S => some (acc, S)
  | d :: ds, acc, S => (g1 d ρ).bind fun ρ1 => (s2 ρ1 S).bind fun p => (inL g2 mk (wipeD ρ1 vs2) p.1 acc p.2).bind fun z => outL g1 s2 g2 mk vs2 ρ ds z.1 z.2
/-- list({key: True for .. in .. for .. in ..}), a list that will change -/
def mTwoC (s1 : MA) (g1 : MG) (s2 : MA) (g2 : MG) (mk : ME) (vs vs2 : List Nat) : ME := fun ρ S => (s1 ρ S).bind fun p => (outL g1 s2 g2 mk vs2 (wipeD ρ vs) p.1 [] p.2).bind fun z => if z.1.length ≤ 1000000 then some (.loc z.2.length, z.2 ++ [some z.1]) else none
section
variable {w : World} {s1 s2 : MA} {g1 g2 : MG} {mk : ME} {vs vs2 ts1 ts2 : List Nat}
/-- where the outer loop stands -/
structure Ou (K : PySem.W.Frag) (w : World) (F : Hp) (D : Addr) (σ : L2.St) (ρ : Env') (g1 : MG) (s2 : MA) (g2 : MG) (mk : ME) (vs vs2 : List Nat) (J : It) (ds : List DL.D) (Q : VK) (i n : Nat) (H : Hp) : Prop where
  all : ∃ μ G S es ks rs S', Rel K (upd F D (NDO w D es)) μ S H G ∧ REnv K μ G (L2.wipe σ vs) (wipeD ρ vs) ∧ i + n = ds.length ∧ ItD K J μ G ds ∧ Ks K μ G es ks ∧ outL g1 s2 g2 mk vs2 (wipeD ρ vs) (ds.drop i) ks S = some (rs, S') ∧ rs.length ≤ 1000000 ∧
    Aft K F μ G (S' ++ [some rs]) (fun μ' G' H' => ∀ v, Rp K μ' G' v (.loc S'.length) → Q v H')
structure In (K : PySem.W.Frag) (w : World) (F : Hp) (D : Addr) (σ : L2.St) (ρ : Env') (g1 : MG) (s2 : MA) (g2 : MG) (mk : ME) (vs vs2 : List Nat) (J : It) (ds : List DL.D) (Q : VK) (i n : Nat) (σ2 : L2.St) (ρ2 : Env') (J2 : It) (ds2 : List DL.D) (j m : Nat) (H : Hp) : Prop where
  all : ∃ μ G S es ks ks2 S2 rs S', Rel K (upd F D (NDO w D es)) μ S H G ∧ REnv K μ G (L2.wipe σ vs) (wipeD ρ vs) ∧ REnv K μ G (L2.wipe σ2 vs2) (wipeD ρ2 vs2) ∧ i + 1 + n = ds.length ∧ j + m = ds2.length ∧ ItD K J μ G ds ∧ ItD K J2 μ G ds2 ∧ Ks K μ G es ks ∧
    inL g2 mk (wipeD ρ2 vs2) (ds2.drop j) ks S = some (ks2, S2) ∧ outL g1 s2 g2 mk vs2 (wipeD ρ vs) (ds.drop (i + 1)) ks2 S2 = some (rs, S') ∧ rs.length ≤ 1000000 ∧
    Aft K F μ G (S' ++ [some rs]) (fun μ' G' H' => ∀ v, Rp K μ' G' v (.loc S'.length) → Q v H')
theorem two_weak (h1 : ∀ i ∈ ts1, i ∈ vs) (h2 : ∀ i ∈ ts2, i ∈ vs2) : ∀ σ H Q, tD K (mTwoC s1 g1 s2 g2 mk vs vs2) σ H Q → tCB (rListN w) (tCons (tTwo K w (tDI K s1) (tDG K g1 ts1) (tDI K s2) (tDG K g2 ts2) (tD K mk) (tD K (mC (.bl true))) vs vs2) tNil) σ H Q := by
  rintro σ H Q ⟨F, μ, G, S, ρ, d, S', r, re, e, k⟩
  obtain ⟨⟨ds, S1⟩, e1, e⟩ := bindS e
  obtain ⟨⟨rs, S2⟩, e2, e⟩ := bindS e
  obtain ⟨hl, e⟩ := ifo e
  cases e
  unfold tCB tCons tNil
  refine ⟨F, μ, G, S, ρ, ds, S1, r, re, e1, fun μ1 G1 H1 p1 x1 q1 J it => ?_⟩
  intro D hD
  have hF : F D = none := q1.frm.back hD
  have hM : D ∉ μ1 := fun z => q1.trk D z hD
  refine ⟨fun i n H => Ou K w F D σ ρ g1 s2 g2 mk vs vs2 J ds Q i n H, ⟨ds.length, ⟨μ1, G1, S1, [], [], rs, S2, q1.frame (q1.sub.back hD) hM hF, (re.mono p1 x1).wipe vs, Nat.zero_add _, it, ⟨⟨[], .nil, .nil⟩, rfl, List.nodup_nil, fun _ h => (nomatch h)⟩, e2, hl, k.mono p1 x1⟩⟩, ?_⟩
  rintro i n H2 ⟨μ2, G2, S3, es, ks, rs2, S4, q2, re2, hi, it2, kk, e3, hl2, k2⟩
  obtain ⟨igo, istop⟩ := it2 _ μ2 G2 S3 H2 (Pf.refl _) (Ex.refl _) q2
  by_cases hlt : i < ds.length
  · have hd : ds[i]? = some ds[i] := List.getElem?_eq_getElem hlt
    rw [List.drop_eq_getElem_cons hlt] at e3
    unfold outL at e3
    obtain ⟨ρ3, e4, e3⟩ := bindS e3
    obtain ⟨⟨ds2, S5⟩, e5, e3⟩ := bindS e3
    obtain ⟨⟨ks2, S6⟩, e6, e3⟩ := bindS e3
    obtain ⟨gg1, gg2⟩ := igo i _ hd
    refine .inr ⟨gg1, fun H => ∃ n', n' < n ∧ Ou K w F D σ ρ g1 s2 g2 mk vs vs2 J ds Q (i + 1) n' H, fun H' h => h, fun x H3 hy => ?_⟩
    obtain ⟨G3, x3, q3, r3⟩ := gg2 x H3 hy
    have re3 := re2.mono (Pf.refl _) x3
    refine ⟨_, μ2, G3, S3, _, _, ρ3, q3, re3, r3, e4, fun σ4 re4 w4 => ?_⟩
    refine ⟨(w4 vs h1).trans (wipe_idem vs), _, μ2, G3, S3, ρ3, ds2, S5, q3, re4, e5, fun μ5 G5 H5 p5 x5 q5 J2 it5 => ?_⟩
    refine ⟨fun j m H => In K w F D σ ρ g1 s2 g2 mk vs vs2 J ds Q i (n - 1) σ4 ρ3 J2 ds2 j m H, ⟨ds2.length, ⟨μ5, G5, S5, es, ks, ks2, S6, rs2, S4, q5, re3.mono p5 x5, (re4.mono p5 x5).wipe vs2, by omega, Nat.zero_add _, (it2.mono (Pf.refl μ2) x3).mono p5 x5, it5, (kk.mono (Pf.refl μ2) x3).mono p5 x5, e6, e3, hl2, (k2.mono (Pf.refl μ2) x3).mono p5 x5⟩⟩, ?_⟩
    rintro j m H6 ⟨μ6, G6, S7, es6, ks6, ks7, S8, rs6, S9, q6, re6, re7, hi6, hj6, it6, it7, kk6, e7, e8, hl6, k6⟩
    obtain ⟨jgo, jstop⟩ := it7 _ μ6 G6 S7 H6 (Pf.refl _) (Ex.refl _) q6
    by_cases hjl : j < ds2.length
    · have hd2 : ds2[j]? = some ds2[j] := List.getElem?_eq_getElem hjl
      rw [List.drop_eq_getElem_cons hjl] at e7
      unfold inL at e7
      obtain ⟨ρ8, e9, e7⟩ := bindS e7
      obtain ⟨⟨y, S10⟩, e10, e7⟩ := bindS e7
      obtain ⟨ks8, e11, e7⟩ := bindS e7
      obtain ⟨kd, ek, e11⟩ := bindS e11
      obtain ⟨⟨hk8, hkl⟩, e11⟩ := ifo e11
      obtain ⟨jj1, jj2⟩ := jgo j _ hd2
      refine .inr ⟨jj1, fun H => ∃ m', m' < m ∧ In K w F D σ ρ g1 s2 g2 mk vs vs2 J ds Q i (n - 1) σ4 ρ3 J2 ds2 (j + 1) m' H, fun H' h => h, fun x8 H8 hy8 => ?_⟩
      obtain ⟨G8, x8', q8, r8⟩ := jj2 x8 H8 hy8
      have re8 := re7.mono (Pf.refl _) x8'
      refine ⟨_, μ6, G8, S7, _, _, ρ8, q8, re8, r8, e9, fun σ9 re9 w9 => ?_⟩
      refine ⟨(w9 vs2 h2).trans (wipe_idem vs2), _, μ6, G8, S7, ρ8, y, S10, q8, re9, e10, fun μ9 G9 H9 p9 x9 q9 v9 rv9 => ?_⟩
      refine ⟨_, μ9, G9, S10, ρ8, .bl true, S10, q9, re9.mono p9 x9, rfl, fun μa Ga Ha pa xa qa va rva => ?_⟩
      have kka := (kk6.mono (Pf.refl μ6) x8').mono (p9.trans pa) (x9.trans xa)
      have rya := rv9.mono pa xa
      refine ⟨es6, kd, key_of rya qa ek, hk8, qa.frm D _ upd_same, by rw [kka.len]; exact sz6' (by omega), kka.keyed qa, fun u rr ru rr' => ⟨m - 1, by omega, ?_⟩⟩
      have kkb := kka.put (r := rr) ek hk8 rya ru (Option.some.inj e11).symm
      exact ⟨μa, Ga, S10, _, ks8, ks7, S8, rs6, S9, qa.reframe hF, ((re6.mono (Pf.refl _) x8').mono p9 x9).mono pa xa, (re8.mono p9 x9).mono pa xa, hi6, by omega, ((it6.mono (Pf.refl μ6) x8').mono p9 x9).mono pa xa, ((it7.mono (Pf.refl μ6) x8').mono p9 x9).mono pa xa, kkb, e7, e8, hl6, ((k6.mono (Pf.refl μ6) x8').mono p9 x9).mono pa xa⟩
    · have hj' : j = ds2.length := by omega
      subst hj'
      rw [List.drop_length] at e7
      cases e7
      exact .inl ⟨jstop, n - 1, by omega, ⟨μ6, G6, S7, es6, ks6, rs6, S9, q6, re6, hi6, it6, kk6, e8, hl6, k6⟩⟩
  · have hi' : i = ds.length := by omega
    subst hi'
    rw [List.drop_length] at e3
    cases e3
    refine .inl ⟨istop, ?_⟩
    obtain ⟨ys, ra, rv⟩ := kk.val
    refine ⟨D, es, ys, rfl, q2.frm D _ upd_same, rv, by rw [kk.len]; exact Nat.le_trans hl2 (by rw [sizeLine_eq]; decide), fun p hp => ?_⟩
    have q3 := q2.unframe hF
    have hfp : F p = none := q3.frm.back hp
    have q4 := (q3.frame (o := .lst ys) (q3.sub.back hp) (fun z => q3.trk p z hp) hfp).toCell hfp ra
    exact k2 _ G2 _ ⟨[p], rfl⟩ (Ex.refl _) q4 _ (.loc (by rw [List.getElem?_append_right (by rw [q3.len]; exact Nat.le_refl _), q3.len, Nat.sub_self]; rfl))
variable {X : Cx} {pos p pos' : Pos}
theorem d_twoC {kx vx t1 e1 t2 e2 : Expr} {sc : Scope} {own : List (Str × Nat)} (hc : X.calm = true) (hu : X.A.units + 8 < cLine) (hm : X.mg "list" = none) (hN : X.N.Nodup) (hi : PI X t1 e1 (tDI X.K s1)) (ok : BlkOk X.N X.env.scope sc own) (h1 : ∀ i ∈ ts1, i ∈ own.map (·.2)) (h2 : ∀ i ∈ ts2, i ∈ vs2) (hvs : ∀ i ∈ vs2, i ∈ own.map (·.2))
    (hg : ∀ (s : Shared) (H : Hp) (C : Addr) (cl : List (Str × Addr)) (fp : List Addr), PG (X.blk s H sc (compEnvC sc cl C X.env) fp) t1 (tDG X.K g1 ts1))
    (hi2 : ∀ (s : Shared) (H : Hp) (C : Addr) (cl : List (Str × Addr)) (fp : List Addr), PI (X.blk s H sc (compEnvC sc cl C X.env) fp) t2 e2 (tDI X.K s2))
    (hg2 : ∀ (s : Shared) (H : Hp) (C : Addr) (cl : List (Str × Addr)) (fp : List Addr), PG (X.blk s H sc (compEnvC sc cl C X.env) fp) t2 (tDG X.K g2 ts2))
    (hk : ∀ (s : Shared) (H : Hp) (C : Addr) (cl : List (Str × Addr)) (fp : List Addr), PE (X.blk s H sc (compEnvC sc cl C X.env) fp) kx (tD X.K mk))
    (hv : ∀ (s : Shared) (H : Hp) (C : Addr) (cl : List (Str × Addr)) (fp : List Addr), PE (X.blk s H sc (compEnvC sc cl C X.env) fp) vx (tD X.K (mC (.bl true))))
    (hs : ∀ x, foldedSetIterable e1 X.env x = pure x := by intro _; rfl) (hs2 : ∀ env x, foldedSetIterable e2 env x = pure x := by intro _ _; rfl) (hgl : Gl X "list" := by rfl)
    (hst : starEach [two kx vx t1 e1 t2 e2 sc pos'] X.env = (false, eval (two kx vx t1 e1 t2 e2 sc pos') X.env) :: starEach [] X.env := by rfl) (hpl : (backTo pos (starEach ([] : List Expr) X.env)).any (·.1) = false := by rfl) :
    PE X (.Call (.Name "list" p) [two kx vx t1 e1 t2 e2 sc pos'] [] pos) (tD X.K (mTwoC s1 g1 s2 g2 mk (own.map (·.2)) vs2)) :=
  (pe_callTy (call_listN hc) hgl hm (by decide +kernel) (pa_cons (pe_two hc hu hN hi ok hvs hg hi2 hg2 hk hv hs hs2) pa_nil hst) (by decide) (by decide) hst hpl).weak (two_weak h1 h2)
end
end DL
/-! DMe -/
/-! DMe: sought in a list that changes. -/
namespace DL
open PySem PySem.Spec PyProof.Rows L2 DM
variable {F : Hp} {K : PySem.W.Frag}
def fInC : MOp := fun d e S => match e with
  | .loc n => match S[n]? with
    | some (some c) => if d.scal = true ∧ c.all D.scal = true then some (.bl (c.any fun z => eqS z d), S) else none
    | _ => none
  | _ => none
theorem f_inC : OpD K (rInD' K) fInC := by
  intro F μ G S H x y d e z S' Q r r1 r2 hf a
  unfold fInC at hf
  split at hf
  · rename_i n
    split at hf
    · rename_i c hc
      obtain ⟨hs, hz⟩ := ifs hf
      cases hz
      cases r2 with
      | loc hm =>
        obtain ⟨vs, h1, h2⟩ := r.at (.loc hm) hc
        exact .inr (.inl ⟨_, vs, rfl, .inl (SqL.of h1), scal_flat r1 hs.1, scals_flat h2 hs.2, by
          rw [inS_V r1 hs.1 h2 hs.2]
          exact tD_now a r (.bl _)⟩)
    · cases hf
  · cases hf
theorem u8 {A : Around} (h : A.units + 65 < cLine) : A.units + 8 < cLine := by omega
end DL
/-! SWa -/
/-! SW: what a reading comes to, as a wish of what follows. -/
namespace SW
open PySem PySem.Spec PyProof.Rows L2 DL SH
def WE (m : ME) (ρ : Env') (S : Sto) (Q : D → Sto → Prop) : Prop := ∃ d S', m ρ S = some (d, S') ∧ Q d S'
def WA (m : MA) (ρ : Env') (S : Sto) (Q : List D → Sto → Prop) : Prop := ∃ d S', m ρ S = some (d, S') ∧ Q d S'
def WT (m : MT) (ρ : Env') (S : Sto) (Q : Bool → Sto → Prop) : Prop := ∃ d S', m ρ S = some (d, S') ∧ Q d S'
def WO (m : MO) (ρ : Env') (S : Sto) (Q : Option Int → Sto → Prop) : Prop := ∃ d S', m ρ S = some (d, S') ∧ Q d S'
def WS (m : MS) (ρ : Env') (S : Sto) (Q : Fl → Sto → Prop) : Prop := ∃ d S', m ρ S = some (d, S') ∧ Q d S'
def WF (m : MF) (ds : List D) (S : Sto) (Q : D → Sto → Prop) : Prop := ∃ d S', m ds S = some (d, S') ∧ Q d S'
def WB (f : MOp) (a b : D) (S : Sto) (Q : D → Sto → Prop) : Prop := ∃ d S', f a b S = some (d, S') ∧ Q d S'
/-- what an option holds -/
def On {α : Type} (o : Option α) (Q : α → Prop) : Prop := ∃ a, o = some a ∧ Q a
variable {ρ : Env'} {S S1 : Sto} {m m1 m2 m3 : ME} {t u : MT} {a b : D} {Q : D → Sto → Prop} {QT : Bool → Sto → Prop} {QS : Fl → Sto → Prop} {QA : List D → Sto → Prop} {QO : Option Int → Sto → Prop}
theorem on_some {α : Type} {x : α} {Q : α → Prop} : On (some x) Q ↔ Q x := ⟨fun ⟨_, e, h⟩ => by cases e; exact h, fun h => ⟨_, rfl, h⟩⟩
theorem bind_iff {α β : Type} {o : Option (α × Sto)} {f : α × Sto → Option (β × Sto)} {Q : β → Sto → Prop} : (∃ d S', o.bind f = some (d, S') ∧ Q d S') ↔ ∃ x S1, o = some (x, S1) ∧ ∃ d S', f (x, S1) = some (d, S') ∧ Q d S' := by
  constructor
  · rintro ⟨d, S', e, q⟩
    cases o with
    | none => cases e
    | some p => exact ⟨p.1, p.2, rfl, d, S', e, q⟩
  · rintro ⟨x, S1, rfl, d, S', e, q⟩
    exact ⟨d, S', e, q⟩
theorem map_iff {α β : Type} {o : Option (α × Sto)} {f : α × Sto → β × Sto} {Q : β → Sto → Prop} : (∃ d S', o.map f = some (d, S') ∧ Q d S') ↔ ∃ x S1, o = some (x, S1) ∧ Q (f (x, S1)).1 (f (x, S1)).2 := by
  constructor
  · rintro ⟨d, S', e, q⟩
    cases o with
    | none => cases e
    | some p =>
      have e : f p = (d, S') := Option.some.inj e
      exact ⟨p.1, p.2, rfl, by rw [show (p.1, p.2) = p from rfl, e]; exact q⟩
  · rintro ⟨x, S1, rfl, q⟩
    exact ⟨_, _, rfl, q⟩
theorem some_iff {α : Type} {x : α} {S1 : Sto} {Q : α → Sto → Prop} : (∃ d S', (some (x, S1) : Option (α × Sto)) = some (d, S') ∧ Q d S') ↔ Q x S1 :=
  ⟨fun ⟨_, _, e, h⟩ => by cases e; exact h, fun h => ⟨_, _, rfl, h⟩⟩
theorem opt_iff {α β : Type} {o : Option α} {f : α → β × Sto} {Q : β → Sto → Prop} : (∃ d S', o.map f = some (d, S') ∧ Q d S') ↔ On o fun x => Q (f x).1 (f x).2 := by
  constructor
  · rintro ⟨d, S', e, q⟩
    cases o with
    | none => cases e
    | some p =>
      have e : f p = (d, S') := Option.some.inj e
      exact ⟨p, rfl, by show Q (f p).1 (f p).2; rw [e]; exact q⟩
  · rintro ⟨x, rfl, q⟩
    exact ⟨_, _, rfl, q⟩
theorem ite_iff {α : Type} {c : Prop} [Decidable c] {o : Option (α × Sto)} {Q : α → Sto → Prop} : (∃ d S', (if c then o else none) = some (d, S') ∧ Q d S') ↔ c ∧ ∃ d S', o = some (d, S') ∧ Q d S' := by
  constructor
  · rintro ⟨d, S', e, q⟩
    obtain ⟨hc, e⟩ := ifo e
    exact ⟨hc, d, S', e, q⟩
  · rintro ⟨hc, d, S', e, q⟩
    exact ⟨d, S', by rw [if_pos hc]; exact e, q⟩
/-! expressions -/
def at? (ρ : Env') (i : Nat) : Option D := (ρ[i]?).bind id
theorem we_var {i : Nat} : WE (mVar i) ρ S Q ↔ On (at? ρ i) fun d => Q d S := by
  unfold WE mVar at? On
  cases ρ[i]? with
  | none => simp
  | some o => cases o with
    | none => simp
    | some d => exact some_iff.trans (by simp)
theorem we_c {d : D} : WE (mC d) ρ S Q ↔ Q d S := some_iff
theorem we_bin {f : MOp} : WE (mBin f m1 m2) ρ S Q ↔ WE m1 ρ S fun x S1 => WE m2 ρ S1 fun y S2 => WB f x y S2 Q := by
  unfold WE mBin WB
  simp only [bind_iff]
theorem we_call {f : MF} {n : MA} : WE (mCall f n) ρ S Q ↔ WA n ρ S fun ds S1 => WF f ds S1 Q := by
  unfold WE mCall WA WF
  simp only [bind_iff]
theorem wa_nil : WA mNil ρ S QA ↔ QA [] S := some_iff
theorem wa_cons {n : MA} : WA (mCons m n) ρ S QA ↔ WE m ρ S fun d S1 => WA n ρ S1 fun ds S2 => QA (d :: ds) S2 := by
  unfold WE mCons WA
  simp only [bind_iff, some_iff]
theorem we_tup {n : MA} : WE (mTup n) ρ S Q ↔ WA n ρ S fun ds S1 => ds.length ≤ 1000000 ∧ Q (.tup ds) S1 := by
  unfold WE mTup WA
  simp only [bind_iff, ite_iff, some_iff]
theorem we_lst {n : MA} : WE (mLst n) ρ S Q ↔ WA n ρ S fun ds S1 => ds.length ≤ 1000000 ∧ Q (.lst ds) S1 := by
  unfold WE mLst WA
  simp only [bind_iff, ite_iff, some_iff]
theorem we_cel {n : MA} : WE (mCel n) ρ S Q ↔ WA n ρ S fun ds S1 => ds.length ≤ 1000000 ∧ Q (.loc S1.length) (S1 ++ [some ds]) := by
  unfold WE mCel WA
  simp only [bind_iff, ite_iff, some_iff]
theorem we_dic {ks : List Key} {n : MA} : WE (mDic ks n) ρ S Q ↔ WA n ρ S fun ds S1 => ds.length = ks.length ∧ Q (.dct ks ds) S1 := by
  unfold WE mDic WA
  simp only [bind_iff, ite_iff, some_iff]
def intOf : D → Option Int
  | .int i => some i
  | _ => none
def strOf : D → Option Str
  | .str i => some i
  | _ => none
def blOf : D → Option Bool
  | .bl i => some i
  | _ => none
theorem intOf_int {i : Int} : intOf (.int i) = some i := rfl
theorem strOf_str {i : Str} : strOf (.str i) = some i := rfl
theorem blOf_bl {i : Bool} : blOf (.bl i) = some i := rfl
theorem we_neg : WE (mNeg m) ρ S Q ↔ WE m ρ S fun d S1 => On (intOf d) fun i => Q (.int (-i)) S1 := by
  unfold WE mNeg
  simp only [bind_iff, opt_iff]
  refine exists_congr fun x => exists_congr fun S1 => and_congr_right fun _ => ?_
  cases x <;> simp [fNeg, intOf, On]
theorem wo_np : WO mNoPart ρ S QO ↔ QO none S := some_iff
theorem wo_pt : WO (mPart m) ρ S QO ↔ WE m ρ S fun d S1 => On (intOf d) fun i => QO (some i) S1 := by
  unfold WE mPart WO
  simp only [bind_iff]
  refine exists_congr fun x => exists_congr fun S1 => and_congr_right fun _ => ?_
  cases x <;> first | (simp only [intOf, strOf, blOf, on_some]; exact some_iff) | (simp [intOf, strOf, blOf, On]; done)
theorem we_sl {l h : MO} : WE (mSl m l h) ρ S Q ↔ WE m ρ S fun d S1 => WO l ρ S1 fun i S2 => WO h ρ S2 fun j S3 => On (fSl d i j) fun z => Q z S3 := by
  unfold WE mSl WO
  simp only [bind_iff, opt_iff]
/-- isinstance(d, T) -/
def isOf (T : String) (d : D) (S : Sto) : Option Bool := (tyOf d S).map (isA T)
theorem we_isi {T : String} : WE (mIsi T m) ρ S Q ↔ WE m ρ S fun d S1 => On (isOf T d S1) fun w => Q (.bl w) S1 := by
  unfold WE mIsi isOf On
  simp only [bind_iff, opt_iff]
  refine exists_congr fun x => exists_congr fun S1 => and_congr_right fun _ => ?_
  cases tyOf x S1 <;> simp [On]
theorem we_st0 {w : Str → D} : WE (mSt0 w m) ρ S Q ↔ WE m ρ S fun d S1 => On (strOf d) fun s => Q (w s) S1 := by
  unfold WE mSt0
  simp only [bind_iff]
  refine exists_congr fun x => exists_congr fun S1 => and_congr_right fun _ => ?_
  cases x <;> first | (simp only [intOf, strOf, blOf, on_some]; exact some_iff) | (simp [intOf, strOf, blOf, On]; done)
theorem we_din {neg : Bool} {tb : List (Str × D)} : WE (mDin neg tb m) ρ S Q ↔ WE m ρ S fun d S1 => On (strOf d) fun z => Q (.bl (if neg then !(tb.lookup z).isSome else (tb.lookup z).isSome)) S1 := by
  unfold WE mDin
  simp only [bind_iff]
  refine exists_congr fun x => exists_congr fun S1 => and_congr_right fun _ => ?_
  cases x <;> first | (simp only [intOf, strOf, blOf, on_some]; exact some_iff) | (simp [intOf, strOf, blOf, On]; done)
theorem we_dix {tb : List (Str × D)} : WE (mDix tb m) ρ S Q ↔ WE m ρ S fun d S1 => On (strOf d) fun z => On (tb.lookup z) fun v => Q v S1 := by
  unfold WE mDix
  simp only [bind_iff]
  refine exists_congr fun x => exists_congr fun S1 => and_congr_right fun _ => ?_
  cases x <;> first | (simp only [intOf, strOf, blOf, on_some]; exact opt_iff) | (simp [strOf, On]; done)
theorem we_andV : WE (mAndV m1 m2) ρ S Q ↔ WE m1 ρ S fun d S1 => On (blOf d) fun x => if x = true then WE m2 ρ S1 Q else Q (.bl false) S1 := by
  unfold WE mAndV
  simp only [bind_iff]
  refine exists_congr fun x => exists_congr fun S1 => and_congr_right fun _ => ?_
  cases x <;> first | (simp [blOf, On]; done) | skip
  rename_i b _
  simp only [blOf, on_some]
  cases b
  · exact some_iff
  · exact Iff.rfl
theorem we_orV : WE (mOrV m1 m2) ρ S Q ↔ WE m1 ρ S fun d S1 => On (blOf d) fun x => if x = true then Q (.bl true) S1 else WE m2 ρ S1 Q := by
  unfold WE mOrV
  simp only [bind_iff]
  refine exists_congr fun x => exists_congr fun S1 => and_congr_right fun _ => ?_
  cases x <;> first | (simp [blOf, On]; done) | skip
  rename_i b _
  simp only [blOf, on_some]
  cases b
  · exact Iff.rfl
  · exact some_iff
theorem we_notV : WE (mNotV m) ρ S Q ↔ WE m ρ S fun d S1 => On (blOf d) fun x => Q (.bl (!x)) S1 := by
  unfold WE mNotV
  simp only [bind_iff]
  refine exists_congr fun x => exists_congr fun S1 => and_congr_right fun _ => ?_
  cases x <;> first | (simp only [intOf, strOf, blOf, on_some]; exact some_iff) | (simp [intOf, strOf, blOf, On]; done)
theorem we_if : WE (mIf t m1 m2) ρ S Q ↔ WT t ρ S fun x S1 => if x = true then WE m1 ρ S1 Q else WE m2 ρ S1 Q := by
  unfold WE mIf WT
  simp only [bind_iff]
  refine exists_congr fun x => exists_congr fun S1 => and_congr_right fun _ => ?_
  cases x <;> simp
theorem we_chn {f g : MOp} : WE (mChn f g m1 m2 m3) ρ S Q ↔ WE m1 ρ S fun x S1 => WE m2 ρ S1 fun y S2 => WB f x y S2 fun z S3 => On (blOf z) fun b => if b = true then WE m3 ρ S3 fun v S4 => WB g y v S4 Q else Q (.bl false) S3 := by
  unfold WE mChn WB
  simp only [bind_iff]
  refine exists_congr fun x => exists_congr fun S1 => and_congr_right fun _ => exists_congr fun y => exists_congr fun S2 => and_congr_right fun _ => exists_congr fun z => exists_congr fun S3 => and_congr_right fun _ => ?_
  cases z <;> first | (simp [blOf, On]; done) | skip
  rename_i b _
  simp only [blOf, on_some]
  cases b
  · exact some_iff
  · exact bind_iff
def getO (x y z : D) : Option D := match x with
  | .dct ks ds => (keyOf y).map fun k => (dGet ks ds k).getD z
  | _ => none
theorem getO_str {ks : List Key} {ds : List D} {x : Str} {z : D} : getO (.dct ks ds) (.str x) z = some ((dGet ks ds (.inr x)).getD z) := rfl
theorem we_get2 {n l : ME} : WE (mGet2 m n l) ρ S Q ↔ WE m ρ S fun x S1 => WE n ρ S1 fun y S2 => WE l ρ S2 fun z S3 => On (getO x y z) fun d => Q d S3 := by
  unfold WE mGet2 On
  simp only [bind_iff]
  refine exists_congr fun x => exists_congr fun S1 => and_congr_right fun _ => exists_congr fun y => exists_congr fun S2 => and_congr_right fun _ => exists_congr fun z => exists_congr fun S3 => and_congr_right fun _ => ?_
  cases x <;> first | (simp [getO]; done) | skip
  rename_i ks ds _
  simp only [getO, opt_iff, On]
  cases keyOf y <;> simp
theorem abs10 : Int.natAbs 10 = 10 := rfl
/-! tests -/
theorem wt_bl : WT (mBl m) ρ S QT ↔ WE m ρ S fun d S1 => On (blOf d) fun x => QT x S1 := by
  unfold WE mBl WT
  simp only [bind_iff]
  refine exists_congr fun x => exists_congr fun S1 => and_congr_right fun _ => ?_
  cases x <;> first | (simp only [intOf, strOf, blOf, on_some]; exact some_iff) | (simp [intOf, strOf, blOf, On]; done)
theorem wt_tr : WT (mTr m) ρ S QT ↔ WE m ρ S fun d S1 => On (trD d S1) fun x => QT x S1 := by
  unfold WE mTr WT
  simp only [bind_iff, opt_iff]
theorem wt_not : WT (mNotT t) ρ S QT ↔ WT t ρ S fun x S1 => QT (!x) S1 := by
  unfold WT mNotT
  simp only [map_iff]
theorem wt_and : WT (mAndT t u) ρ S QT ↔ WT t ρ S fun x S1 => if x = true then WT u ρ S1 QT else QT false S1 := by
  unfold WT mAndT
  simp only [bind_iff]
  refine exists_congr fun x => exists_congr fun S1 => and_congr_right fun _ => ?_
  cases x <;> simp
theorem wt_or : WT (mOrT t u) ρ S QT ↔ WT t ρ S fun x S1 => if x = true then QT true S1 else WT u ρ S1 QT := by
  unfold WT mOrT
  simp only [bind_iff]
  refine exists_congr fun x => exists_congr fun S1 => and_congr_right fun _ => ?_
  cases x <;> simp
theorem wt_yes : WT mYes ρ S QT ↔ QT true S := some_iff
/-! statements -/
variable {p p2 : MS}
/-- what follows a statement -/
def Nx (p : MS) (Q : Fl → Sto → Prop) (f : Fl) (S : Sto) : Prop := match f with
  | .nx ρ => WS p ρ S Q
  | f => Q f S
theorem ws_next : WS sNext ρ S QS ↔ QS (.nx ρ) S := some_iff
theorem ws_seq : WS (sSeq p p2) ρ S QS ↔ WS p ρ S (Nx p2 QS) := by
  unfold WS sSeq
  constructor
  · rintro ⟨d, S', e, q⟩
    cases e1 : p ρ S with
    | none =>
      rw [e1] at e
      cases e
    | some r =>
      obtain ⟨f, S1⟩ := r
      rw [e1] at e
      refine ⟨f, S1, rfl, ?_⟩
      cases f with
      | nx ρ1 => exact ⟨d, S', e, q⟩
      | rt d => cases e; exact q
      | bk d => cases e; exact q
      | ct d => cases e; exact q
  · rintro ⟨f, S1, e1, q⟩
    cases f with
    | nx ρ1 =>
      obtain ⟨d, S', e, q⟩ := q
      exact ⟨d, S', by rw [e1]; exact e, q⟩
    | rt d => exact ⟨_, _, by rw [e1], q⟩
    | bk d => exact ⟨_, _, by rw [e1], q⟩
    | ct d => exact ⟨_, _, by rw [e1], q⟩
theorem nx_nx : Nx p QS (.nx ρ) S ↔ WS p ρ S QS := Iff.rfl
theorem nx_rt {d : D} : Nx p QS (.rt d) S ↔ QS (.rt d) S := Iff.rfl
theorem nx_bk : Nx p QS (.bk ρ) S ↔ QS (.bk ρ) S := Iff.rfl
theorem nx_ct : Nx p QS (.ct ρ) S ↔ QS (.ct ρ) S := Iff.rfl
theorem ws_ret : WS (sRet m) ρ S QS ↔ WE m ρ S fun d S1 => QS (.rt d) S1 := map_iff
theorem ws_drop : WS (sDrop m) ρ S QS ↔ WE m ρ S fun d S1 => QS (.nx ρ) S1 := map_iff
theorem ws_set {i : Nat} : WS (sSet i m) ρ S QS ↔ WE m ρ S fun d S1 => QS (.nx (ρ.set i (some d))) S1 := map_iff
theorem ws_if : WS (sIf t p p2) ρ S QS ↔ WT t ρ S fun x S1 => if x = true then WS p ρ S1 QS else WS p2 ρ S1 QS := by
  unfold WS sIf WT
  simp only [bind_iff]
  refine exists_congr fun x => exists_congr fun S1 => and_congr_right fun _ => ?_
  cases x <;> simp
theorem ws_brk : WS sBrk ρ S QS ↔ QS (.bk ρ) S := some_iff
theorem ws_cnt : WS sCnt ρ S QS ↔ QS (.ct ρ) S := some_iff
theorem ws_asg {g : MG} : WS (sAsg g m) ρ S QS ↔ WE m ρ S fun d S1 => On (g d ρ) fun ρ' => QS (.nx ρ') S1 := by
  unfold WS sAsg WE
  simp only [bind_iff, opt_iff]
theorem ws_par {i j : Nat} : WS (sPar i j m1 m2) ρ S QS ↔ WE m1 ρ S fun x S1 => WE m2 ρ S1 fun y S2 => QS (.nx ((ρ.set i (some x)).set j (some y))) S2 := by
  unfold WS sPar WE
  simp only [bind_iff, map_iff]
theorem ws_aug {i : Nat} {g : Int → Int → Int} : WS (sAug i g m) ρ S QS ↔ ∃ x, at? ρ i = some (.int x) ∧ WE m ρ S fun d S1 => On (intOf d) fun y => QS (.nx (ρ.set i (some (.int (g x y))))) S1 := by
  unfold WS sAug WE at? On
  cases ρ[i]? with
  | none => simp
  | some o =>
    cases o with
    | none => simp
    | some d =>
      cases d <;> simp
      rename_i x
      simp only [bind_iff]
      refine exists_congr fun y => exists_congr fun S1 => and_congr_right fun _ => ?_
      cases y <;> first | (refine some_iff.trans ?_; simp [intOf]; done) | (simp [intOf]; done)
/-! defs -/
def Rt (Q : D → Sto → Prop) (f : Fl) (S : Sto) : Prop := match f with
  | .rt d => Q d S
  | .nx _ => Q .non S
  | _ => False
theorem rt_rt {d : D} : Rt Q (.rt d) S ↔ Q d S := Iff.rfl
theorem rt_nx : Rt Q (.nx ρ) S ↔ Q .non S := Iff.rfl
theorem wf_fn {N : Nat} {ds : List D} : WF (mFn N p) ds S Q ↔ WS p (ds.map some ++ List.replicate (N - ds.length) none) S (Rt Q) := by
  unfold WF mFn WS
  constructor
  · rintro ⟨d, S', e, q⟩
    split at e
    · rename_i d1 S1 e1
      cases e
      exact ⟨_, _, e1, q⟩
    · rename_i d1 S1 e1
      cases e
      exact ⟨_, _, e1, q⟩
    · cases e
  · rintro ⟨f, S', e, q⟩
    cases f with
    | rt d => exact ⟨d, S', by rw [e], q⟩
    | nx r => exact ⟨.non, S', by rw [e], q⟩
    | bk r => exact q.elim
    | ct r => exact q.elim
theorem wf_is {f : MF} {ds : List D} {d : D} {S' : Sto} (h : f ds S = some (d, S')) : WF f ds S Q ↔ Q d S' := by
  unfold WF
  rw [h]
  exact some_iff
theorem wf_eq {f : MF} {ds : List D} (h : WF f ds S fun d S' => d = a ∧ S' = S1) : f ds S = some (a, S1) := by
  obtain ⟨d, S', e, rfl, rfl⟩ := h
  exact e
theorem WF.mono {f : MF} {ds : List D} {Q' : D → Sto → Prop} (h : WF f ds S Q) (k : ∀ d S', Q d S' → Q' d S') : WF f ds S Q' :=
  let ⟨d, S', e, q⟩ := h
  ⟨d, S', e, k d S' q⟩
theorem WS.mono {QS' : Fl → Sto → Prop} (h : WS p ρ S QS) (k : ∀ d S', QS d S' → QS' d S') : WS p ρ S QS' :=
  let ⟨d, S', e, q⟩ := h
  ⟨d, S', e, k d S' q⟩
theorem WE.mono {Q' : D → Sto → Prop} (h : WE m ρ S Q) (k : ∀ d S', Q d S' → Q' d S') : WE m ρ S Q' :=
  let ⟨d, S', e, q⟩ := h
  ⟨d, S', e, k d S' q⟩
/-! comprehensions -/
def WL (g : MG) (t : MT) (m : ME) (ρ : Env') (ds : List D) (S : Sto) (Q : List D → Sto → Prop) : Prop := ∃ rs S', lcL g t m ρ ds S = some (rs, S') ∧ Q rs S'
theorem we_lc {s : MA} {g : MG} {vs : List Nat} : WE (mLc s g t m vs) ρ S Q ↔ WA s ρ S fun ds S1 => ds.length ≤ 1000000 ∧ WL g t m (wipeD ρ vs) ds S1 fun rs S2 => Q (.lst rs) S2 := by
  unfold WE mLc WA WL
  simp only [bind_iff, ite_iff, map_iff]
theorem we_lcC {s : MA} {g : MG} {vs : List Nat} : WE (mLcC s g t m vs) ρ S Q ↔ WA s ρ S fun ds S1 => ds.length ≤ 1000000 ∧ WL g t m (wipeD ρ vs) ds S1 fun rs S2 => Q (.loc S2.length) (S2 ++ [some rs]) := by
  unfold WE mLcC WA WL
  simp only [bind_iff, ite_iff, map_iff]
theorem wl_nil {g : MG} {Q : List D → Sto → Prop} : WL g t m ρ [] S Q ↔ Q [] S := some_iff
theorem wl_cons {g : MG} {d : D} {ds : List D} {Q : List D → Sto → Prop} : WL g t m ρ (d :: ds) S Q ↔ On (g d ρ) fun ρ1 => WT t ρ1 S fun x S1 => if x = true then WE m ρ1 S1 fun y S2 => WL g t m ρ ds S2 fun rs S3 => Q (y :: rs) S3 else WL g t m ρ ds S1 Q := by
  unfold WL On WT WE
  show (∃ rs S', (g d ρ).bind _ = some (rs, S') ∧ Q rs S') ↔ _
  cases g d ρ with
  | none => simp
  | some ρ1 =>
    simp only [Option.bind_some, Option.some.injEq, exists_eq_left']
    simp only [bind_iff]
    refine exists_congr fun x => exists_congr fun S1 => and_congr_right fun _ => ?_
    cases x with
    | true => simp only [if_true, bind_iff, map_iff]
    | false => simp
/-- a comprehension by what holds of each -/
theorem wl_inv {g : MG} (P : Sto → Prop) (R : D → Prop) {ds : List D} {Q : List D → Sto → Prop} (hp : P S) (h : ∀ d ∈ ds, ∀ S, P S → On (g d ρ) fun ρ1 => WE m ρ1 S fun r S' => P S' ∧ R r) (k : ∀ rs S', P S' → rs.length = ds.length → (∀ r ∈ rs, R r) → Q rs S') : WL g mYes m ρ ds S Q := by
  obtain ⟨rs, S', e, q1, q2, q3⟩ := lc_inv (g := g) (m := m) (ρ := ρ) P R (ds := ds) (S := S) (fun d hd S hS => by
    obtain ⟨ρ1, e1, r, S', e2, q⟩ := h d hd S hS
    exact ⟨ρ1, r, S', e1, e2, q.1, q.2⟩) hp
  exact ⟨rs, S', e, k rs S' q1 q2 q3⟩
/-- a comprehension that draws nothing -/
theorem wl_pure {g : MG} {f : D → D} {ds : List D} {Q : List D → Sto → Prop} (h : ∀ d ∈ ds, On (g d ρ) fun ρ1 => WE m ρ1 S fun r S' => r = f d ∧ S' = S) (k : Q (ds.map f) S) : WL g mYes m ρ ds S Q :=
  ⟨_, _, lc_pure (f := f) fun d hd => by
    obtain ⟨ρ1, e1, r, S', e2, rfl, rfl⟩ := h d hd
    exact ⟨ρ1, e1, e2⟩, k⟩
theorem wa_sq : WA (mSq m) ρ S QA ↔ WE m ρ S fun d S1 => On (itOf d) fun ds => QA ds S1 := by
  unfold WA mSq WE
  simp only [bind_iff, opt_iff]
theorem wa_rg : WA (mRg1 m) ρ S QA ↔ WE m ρ S fun d S1 => On (intOf d) fun j => (-(2 ^ 62) ≤ j ∧ j < 2 ^ 62) ∧ QA (DL.upTo j.toNat) S1 := by
  unfold WA mRg1 WE
  simp only [bind_iff]
  refine exists_congr fun x => exists_congr fun S1 => and_congr_right fun _ => ?_
  cases x <;> simp only [intOf, on_some, ite_iff, some_iff] <;> simp [On]
/-! loops -/
def WR (g : MG) (b : MS) (ds : List D) (ρ : Env') (S : Sto) (Q : Fl → Sto → Prop) : Prop := ∃ f S', forL g b ds ρ S = some (f, S') ∧ Q f S'
theorem ws_for {n : MA} {g : MG} : WS (sFor n g p) ρ S QS ↔ WA n ρ S fun ds S1 => WR g p ds ρ S1 QS := by
  unfold WS sFor WA WR
  simp only [bind_iff]
/-- what follows a turn -/
def Tn (K : Env' → Sto → Prop) (Q : Fl → Sto → Prop) (f : Fl) (S : Sto) : Prop := match f with
  | .nx ρ => K ρ S
  | .ct ρ => K ρ S
  | .bk ρ => Q (.nx ρ) S
  | .rt d => Q (.rt d) S
theorem tn_nx {K : Env' → Sto → Prop} : Tn K QS (.nx ρ) S ↔ K ρ S := Iff.rfl
theorem tn_ct {K : Env' → Sto → Prop} : Tn K QS (.ct ρ) S ↔ K ρ S := Iff.rfl
theorem tn_bk {K : Env' → Sto → Prop} : Tn K QS (.bk ρ) S ↔ QS (.nx ρ) S := Iff.rfl
theorem tn_rt {K : Env' → Sto → Prop} {d : D} : Tn K QS (.rt d) S ↔ QS (.rt d) S := Iff.rfl
def goOn (go : Env' → Sto → Option (Fl × Sto)) : Option (Fl × Sto) → Option (Fl × Sto)
  | some (.nx ρ2, S2) => go ρ2 S2
  | some (.ct ρ2, S2) => go ρ2 S2
  | some (.bk ρ2, S2) => some (.nx ρ2, S2)
  | some (.rt d, S2) => some (.rt d, S2)
  | none => none
theorem tn_iff {o : Option (Fl × Sto)} {go : Env' → Sto → Option (Fl × Sto)} {Q : Fl → Sto → Prop} : (∃ f S', goOn go o = some (f, S') ∧ Q f S') ↔ ∃ d S', o = some (d, S') ∧ Tn (fun ρ2 S2 => ∃ f S', go ρ2 S2 = some (f, S') ∧ Q f S') Q d S' := by
  cases o with
  | none => exact ⟨fun ⟨_, _, e, _⟩ => (by cases e), fun ⟨_, _, e, _⟩ => (by cases e)⟩
  | some r =>
    obtain ⟨f, S1⟩ := r
    cases f with
    | nx ρ => exact ⟨fun h => ⟨_, _, rfl, h⟩, fun ⟨_, _, e, q⟩ => by cases e; exact q⟩
    | ct ρ => exact ⟨fun h => ⟨_, _, rfl, h⟩, fun ⟨_, _, e, q⟩ => by cases e; exact q⟩
    | bk ρ => exact ⟨fun ⟨_, _, e, q⟩ => by cases e; exact ⟨_, _, rfl, q⟩, fun ⟨_, _, e, q⟩ => by cases e; exact ⟨_, _, rfl, q⟩⟩
    | rt d => exact ⟨fun ⟨_, _, e, q⟩ => by cases e; exact ⟨_, _, rfl, q⟩, fun ⟨_, _, e, q⟩ => by cases e; exact ⟨_, _, rfl, q⟩⟩
theorem wr_nil {g : MG} : WR g p [] ρ S QS ↔ QS (.nx ρ) S := some_iff
theorem wr_cons {g : MG} {d : D} {ds : List D} : WR g p (d :: ds) ρ S QS ↔ On (g d ρ) fun ρ1 => WS p ρ1 S (Tn (fun ρ2 S2 => WR g p ds ρ2 S2 QS) QS) := by
  unfold WR On WS
  show (∃ f S', (g d ρ).bind _ = some (f, S') ∧ QS f S') ↔ _
  cases g d ρ with
  | none => simp
  | some ρ1 =>
    simp only [Option.bind_some, Option.some.injEq, exists_eq_left']
    exact tn_iff (go := forL g p ds)
/-- a loop that ends by itself, or by return -/
theorem wr_inv {g : MG} (I : Env' → Sto → Prop) {ds : List D} (h0 : I ρ S) (step : ∀ d ∈ ds, ∀ ρ S, I ρ S → On (g d ρ) fun ρ1 => WS p ρ1 S (Tn I QS)) (fin : ∀ ρ S, I ρ S → QS (.nx ρ) S) : WR g p ds ρ S QS := by
  induction ds generalizing ρ S with
  | nil => exact wr_nil.mpr (fin ρ S h0)
  | cons d ds ih =>
    refine wr_cons.mpr ?_
    obtain ⟨ρ1, e1, h1⟩ := step d (List.mem_cons_self ..) ρ S h0
    refine ⟨ρ1, e1, h1.mono fun f S' q => ?_⟩
    cases f with
    | nx ρ2 => exact ih q fun d hd => step d (List.mem_cons_of_mem _ hd)
    | ct ρ2 => exact ih q fun d hd => step d (List.mem_cons_of_mem _ hd)
    | bk ρ2 => exact q
    | rt d => exact q
/-- the same, with the number of the turn -/
theorem wr_num {g : MG} (I : Nat → Env' → Sto → Prop) {ds : List D} (n : Nat) (h0 : I n ρ S) (step : ∀ (j : Nat) d, ds[j]? = some d → ∀ ρ S, I (n + j) ρ S → On (g d ρ) fun ρ1 => WS p ρ1 S (Tn (I (n + j + 1)) QS)) (fin : ∀ ρ S, I (n + ds.length) ρ S → QS (.nx ρ) S) : WR g p ds ρ S QS := by
  induction ds generalizing ρ S n with
  | nil => exact wr_nil.mpr (fin ρ S h0)
  | cons d ds ih =>
    refine wr_cons.mpr ?_
    obtain ⟨ρ1, e1, h1⟩ := step 0 d rfl ρ S h0
    have go : ∀ ρ2 S', I (n + 1) ρ2 S' → WR g p ds ρ2 S' QS := fun ρ2 S' q => ih (n + 1) q (fun j d hd ρ S hi => by
      have := step (j + 1) d (by simpa using hd) ρ S (by rw [show n + (j + 1) = n + 1 + j by omega]; exact hi)
      rw [show n + (j + 1) + 1 = n + 1 + j + 1 by omega] at this
      exact this) fun ρ S hi => fin ρ S (by rw [List.length_cons, show n + (ds.length + 1) = n + 1 + ds.length by omega]; exact hi)
    refine ⟨ρ1, e1, h1.mono fun f S' q => ?_⟩
    cases f with
    | nx ρ2 => exact go ρ2 S' q
    | ct ρ2 => exact go ρ2 S' q
    | bk ρ2 => exact q
    | rt d => exact q
theorem ww_zero : ¬ WS (whL t p 0) ρ S QS := fun ⟨_, _, e, _⟩ => by cases e
theorem ww_succ {n : Nat} : WS (whL t p (n + 1)) ρ S QS ↔ WT t ρ S fun c S1 => if c = true then WS p ρ S1 (Tn (fun ρ2 S2 => WS (whL t p n) ρ2 S2 QS) QS) else QS (.nx ρ) S1 := by
  unfold WT
  show (∃ d S', (t ρ S).bind _ = some (d, S') ∧ QS d S') ↔ _
  simp only [bind_iff]
  refine exists_congr fun c => exists_congr fun S1 => and_congr_right fun _ => ?_
  cases c with
  | false => exact some_iff.trans (by simp)
  | true =>
    simp only [if_true]
    exact tn_iff (go := whL t p n)
/-! methods of a list that changes -/
theorem we_app : WE (mApp m1 m2) ρ S Q ↔ WE m1 ρ S fun x S1 => (cellAt x S1).isSome = true ∧ WE m2 ρ S1 fun y S2 => On (cellAt x S2) fun c => c.2.length < 1000000 ∧ Q .non (S2.set c.1 (some (c.2 ++ [y]))) := by
  unfold WE mApp On
  simp only [bind_iff]
  refine exists_congr fun x => exists_congr fun S1 => and_congr_right fun _ => ?_
  show (∃ d S', (cellAt x S1).bind _ = some (d, S') ∧ Q d S') ↔ _
  cases cellAt x S1 with
  | none => simp
  | some c0 =>
    simp only [Option.bind_some, Option.isSome_some, true_and]
    simp only [bind_iff]
    refine exists_congr fun y => exists_congr fun S2 => and_congr_right fun _ => ?_
    show (∃ d S', (cellAt x S2).bind _ = some (d, S') ∧ Q d S') ↔ _
    cases cellAt x S2 with
    | none => simp
    | some c =>
      simp only [Option.bind_some, ite_iff, some_iff]
      simp
theorem we_ext : WE (mExt m1 m2) ρ S Q ↔ WE m1 ρ S fun x S1 => (cellAt x S1).isSome = true ∧ WE m2 ρ S1 fun y S2 => On (cellAt x S2) fun c => ∃ ys, y = .lst ys ∧ c.2.length + ys.length ≤ 1000000 ∧ Q .non (S2.set c.1 (some (c.2 ++ ys))) := by
  unfold WE mExt On
  simp only [bind_iff]
  refine exists_congr fun x => exists_congr fun S1 => and_congr_right fun _ => ?_
  show (∃ d S', (cellAt x S1).bind _ = some (d, S') ∧ Q d S') ↔ _
  cases cellAt x S1 with
  | none => simp
  | some c0 =>
    simp only [Option.bind_some, Option.isSome_some, true_and]
    simp only [bind_iff]
    refine exists_congr fun y => exists_congr fun S2 => and_congr_right fun _ => ?_
    show (∃ d S', (cellAt x S2).bind _ = some (d, S') ∧ Q d S') ↔ _
    cases cellAt x S2 with
    | none => simp
    | some c =>
      simp only [Option.bind_some, Option.some.injEq, exists_eq_left']
      cases y <;> simp only [ite_iff, some_iff] <;> simp
theorem we_pop : WE (mPop m) ρ S Q ↔ WE m ρ S fun x S1 => On (cellAt x S1) fun c => On (c.2[c.2.length - 1]?) fun d => Q d (S1.set c.1 (some c.2.dropLast)) := by
  unfold WE mPop On
  simp only [bind_iff]
  refine exists_congr fun x => exists_congr fun S1 => and_congr_right fun _ => ?_
  show (∃ d S', (cellAt x S1).bind _ = some (d, S') ∧ Q d S') ↔ _
  cases cellAt x S1 with
  | none => simp
  | some c =>
    simp only [Option.bind_some, Option.some.injEq, exists_eq_left', opt_iff, On]
/-! draws -/
theorem wf_take {T : Sto} {many : Int} (h : Dr T S) (h1 : 1 ≤ many) (h2 : many ≤ 1000000) (k : ∀ v S', 0 ≤ v → v < many → Dr T S' → Q (.int v) S') : WF m_take [.loc 0, .int many] S Q := by
  obtain ⟨v, S', e, q0, q1, q2⟩ := draw h h1 h2
  exact ⟨_, _, e, k v S' q0 q1 q2⟩
theorem wb_is {f : MOp} {x y d : D} {S' : Sto} (h : f x y S = some (d, S')) : WB f x y S Q ↔ Q d S' := by
  unfold WB
  rw [h]
  exact some_iff
theorem wb_ix {xs : List D} {v : Int} (h0 : 0 ≤ v) (h1 : v < xs.length) (k : ∀ d ∈ xs, Q d S) : WB fIx (.lst xs) (.int v) S Q := by
  obtain ⟨n, rfl⟩ := Int.eq_ofNat_of_zero_le h0
  have hn : n < xs.length := by omega
  have e : fIx (.lst xs) (.int (n : Nat)) S = some (xs[n], S) := by
    show (atI xs (n : Nat)).map _ = _
    rw [atI_nat (List.getElem?_eq_getElem hn)]
    rfl
  exact (wb_is e).mpr (k _ (List.getElem_mem hn))
end SW
/-! SXa -/
/-! SX: how large a thing is; what may be asked of any thing. -/
namespace SX
open PySem PySem.Spec PyProof.Rows L2 DL SH SW
mutual
/-- no place of the store; leaves that are shown shortly -/
def plainB : D → Bool
  | .non => true
  | .bl _ => true
  | .int i => decide (i.natAbs.log2 < 1920) && decide ((PyData.int i).shown.length ≤ 20)
  | .str s => PyData.strOk s
  | .tup xs => plainsB xs
  | .lst xs => plainsB xs
  | .rol xs => plainsB xs
  | .dct ks xs => ks.all keyB && plainsB xs
  | .loc _ => false
def plainsB : List D → Bool
  | [] => true
  | x :: xs => plainB x && plainsB xs
def keyB : Key → Bool
  | .inl i => decide (i.natAbs.log2 < 1920) && decide ((PyData.int i).shown.length ≤ 20)
  | .inr s => PyData.strOk s
end
theorem plains_mem {xs : List D} (h : plainsB xs = true) : ∀ x ∈ xs, plainB x = true := by
  induction xs with
  | nil => intro x hx; cases hx
  | cons y ys ih =>
    simp only [plainsB, Bool.and_eq_true] at h
    intro x hx
    rcases List.mem_cons.mp hx with rfl | hx
    · exact h.1
    · exact ih h.2 x hx
theorem plains_of {xs : List D} (h : ∀ x ∈ xs, plainB x = true) : plainsB xs = true := by
  induction xs with
  | nil => rfl
  | cons y ys ih =>
    simp only [plainsB, Bool.and_eq_true]
    exact ⟨h y (List.mem_cons_self ..), ih fun x hx => h x (List.mem_cons_of_mem _ hx)⟩
theorem str_short {s : Str} (h : PyData.strOk s = true) : (PyData.str s).leavesShort 20 = true := PyData.leavesShort_of_canLay0 20 (.str s) (by simpa only [PyData.canLay0] using h) rfl
theorem key_ok {k : Key} (h : keyB k = true) : (keyPy k).showable = true ∧ (keyPy k).leavesShort 20 = true := by
  cases k with
  | inl i =>
    simp only [keyB, Bool.and_eq_true] at h
    exact ⟨by simp only [keyPy, PyData.showable]; exact h.1, by simp only [keyPy, PyData.leavesShort]; exact h.2⟩
  | inr s => exact ⟨rfl, str_short h⟩
theorem kv_show {ks : List Key} : ∀ {ps : List PyData}, ks.all keyB = true → PyData.showableAll ps = true → PyData.showableKv ((ks.map keyPy).zip ps) = true := by
  induction ks with
  | nil => intro ps _ _; rfl
  | cons k ks ih =>
    intro ps h1 h2
    cases ps with
    | nil => rfl
    | cons p ps =>
      rw [List.all_cons, Bool.and_eq_true] at h1
      simp only [PyData.showableAll, Bool.and_eq_true] at h2
      simp only [List.map_cons, List.zip_cons_cons, PyData.showableKv, Bool.and_eq_true]
      exact ⟨⟨(key_ok h1.1).1, h2.1⟩, ih h1.2 h2.2⟩
theorem kv_short {ks : List Key} : ∀ {ps : List PyData}, ks.all keyB = true → PyData.leavesShortAll 20 ps = true → PyData.leavesShortKv 20 ((ks.map keyPy).zip ps) = true := by
  induction ks with
  | nil => intro ps _ _; rfl
  | cons k ks ih =>
    intro ps h1 h2
    cases ps with
    | nil => rfl
    | cons p ps =>
      rw [List.all_cons, Bool.and_eq_true] at h1
      simp only [PyData.leavesShortAll, Bool.and_eq_true] at h2
      simp only [List.map_cons, List.zip_cons_cons, PyData.leavesShortKv, Bool.and_eq_true]
      exact ⟨⟨(key_ok h1.1).2, h2.1⟩, ih h1.2 h2.2⟩
structure PF (d : D) : Prop where
  full : d.full = true
  shows : d.py.showable = true
  short : d.py.leavesShort 20 = true
structure PFs (ds : List D) : Prop where
  full : D.fulls ds = true
  shows : PyData.showableAll (D.pys ds) = true
  short : PyData.leavesShortAll 20 (D.pys ds) = true
mutual
theorem pf : ∀ {d : D}, plainB d = true → PF d
  | .non, _ => ⟨rfl, rfl, rfl⟩
  | .bl _, _ => ⟨rfl, rfl, rfl⟩
  | .int i, h => by
    simp only [plainB, Bool.and_eq_true] at h
    exact ⟨rfl, by simp only [D.py, PyData.showable]; exact h.1, by simp only [D.py, PyData.leavesShort]; exact h.2⟩
  | .str s, h => ⟨rfl, rfl, by simp only [D.py]; exact str_short (by simpa only [plainB] using h)⟩
  | .tup xs, h => by
    have f := pfs (by simpa only [plainB] using h)
    exact ⟨by simp only [D.full]; exact f.full, by simp only [D.py, PyData.showable]; exact f.shows, by simp only [D.py, PyData.leavesShort]; exact f.short⟩
  | .lst xs, h => by
    have f := pfs (by simpa only [plainB] using h)
    exact ⟨by simp only [D.full]; exact f.full, by simp only [D.py, PyData.showable]; exact f.shows, by simp only [D.py, PyData.leavesShort]; exact f.short⟩
  | .rol xs, h => by
    have f := pfs (by simpa only [plainB] using h)
    exact ⟨by simp only [D.full]; exact f.full, by simp only [D.py, PyData.showable]; exact f.shows, by simp only [D.py, PyData.leavesShort]; exact f.short⟩
  | .dct ks xs, h => by
    simp only [plainB, Bool.and_eq_true] at h
    have f := pfs h.2
    exact ⟨by simp only [D.full]; exact f.full, by simp only [D.py, PyData.showable]; exact kv_show h.1 f.shows, by simp only [D.py, PyData.leavesShort]; exact kv_short h.1 f.short⟩
  | .loc _, h => by simp [plainB] at h
theorem pfs : ∀ {ds : List D}, plainsB ds = true → PFs ds
  | [], _ => ⟨rfl, rfl, rfl⟩
  | d :: ds, h => by
    simp only [plainsB, Bool.and_eq_true] at h
    have f := pf h.1
    have g := pfs h.2
    exact ⟨by simp only [D.fulls, f.full, g.full, Bool.and_true], by simp only [D.pys, PyData.showableAll, f.shows, g.shows, Bool.and_true], by simp only [D.pys, PyData.leavesShortAll, f.short, g.short, Bool.and_true]⟩
end
mutual
/-- how many tuples lie within one another -/
def tupDep : D → Nat
  | .tup xs => tupDeps xs + 1
  | _ => 0
def tupDeps : List D → Nat
  | [] => 0
  | x :: xs => max (tupDep x) (tupDeps xs)
end
/-- a thing of at most so much to show, so deep, so many tuples within one another -/
structure Fit (n h t : Nat) (d : D) : Prop where
  pl : plainB d = true
  wt : d.py.bulk + 1 ≤ n
  dp : d.py.depth ≤ h
  tp : tupDep d ≤ t
theorem Fit.mono {n h t n' h' t' : Nat} {d : D} (f : Fit n h t d) (a : n ≤ n') (b : h ≤ h') (c : t ≤ t') : Fit n' h' t' d := ⟨f.pl, Nat.le_trans f.wt a, Nat.le_trans f.dp b, Nat.le_trans f.tp c⟩
theorem Fit.full {n h t : Nat} {d : D} (f : Fit n h t d) : d.full = true := (pf f.pl).full
/-- a list of things, all together -/
structure Fits (n h t : Nat) (ds : List D) : Prop where
  pl : plainsB ds = true
  wt : PyData.bulkAll (D.pys ds) ≤ n
  dp : PyData.depthAll (D.pys ds) ≤ h
  tp : tupDeps ds ≤ t
theorem Fits.nil {h t : Nat} : Fits 0 h t [] := ⟨rfl, Nat.le_refl _, Nat.zero_le _, Nat.zero_le _⟩
theorem Fits.cons {n m h t : Nat} {d : D} {ds : List D} (f : Fit n h t d) (g : Fits m h t ds) : Fits (n + m) h t (d :: ds) := by
  refine ⟨by simp only [plainsB, f.pl, g.pl, Bool.and_true], ?_, ?_, ?_⟩
  · simp only [D.pys, PyData.bulkAll]
    have := f.wt
    have := g.wt
    omega
  · simp only [D.pys, PyData.depthAll]
    exact Nat.max_le.mpr ⟨f.dp, g.dp⟩
  · simp only [tupDeps]
    exact Nat.max_le.mpr ⟨f.tp, g.tp⟩
theorem Fits.mono {n h t n' h' t' : Nat} {d : List D} (f : Fits n h t d) (a : n ≤ n') (b : h ≤ h') (c : t ≤ t') : Fits n' h' t' d := ⟨f.pl, Nat.le_trans f.wt a, Nat.le_trans f.dp b, Nat.le_trans f.tp c⟩
theorem Fits.tup {n h t : Nat} {ds : List D} (f : Fits n h t ds) : Fit (n + 1) (h + 1) (t + 1) (.tup ds) := ⟨by simp only [plainB]; exact f.pl, by simp only [D.py, PyData.bulk]; have := f.wt; omega, by simp only [D.py, PyData.depth]; have := f.dp; omega, by simp only [tupDep]; have := f.tp; omega⟩
theorem Fits.lst {n h t u : Nat} {ds : List D} (f : Fits n h t ds) : Fit (n + 1) (h + 1) u (.lst ds) := ⟨by simp only [plainB]; exact f.pl, by simp only [D.py, PyData.bulk]; have := f.wt; omega, by simp only [D.py, PyData.depth]; have := f.dp; omega, by simp [tupDep]⟩
theorem Fit.tups {n h t : Nat} {ds : List D} (f : Fit n h t (.tup ds)) : Fits (n - 1) (h - 1) (t - 1) ds := by
  obtain ⟨a, b, c, e⟩ := f
  simp only [plainB] at a
  simp only [D.py, PyData.bulk] at b
  simp only [D.py, PyData.depth] at c
  simp only [tupDep] at e
  exact ⟨a, by omega, by omega, by omega⟩
theorem Fits.head {n h t : Nat} {d : D} {ds : List D} (f : Fits n h t (d :: ds)) : Fit n h t d ∧ Fits n h t ds := by
  obtain ⟨a, b, c, e⟩ := f
  simp only [plainsB, Bool.and_eq_true] at a
  simp only [D.pys, PyData.bulkAll] at b
  simp only [D.pys, PyData.depthAll] at c
  simp only [tupDeps] at e
  exact ⟨⟨a.1, by omega, by omega, by omega⟩, ⟨a.2, by omega, by omega, by omega⟩⟩
theorem Fits.mem {n h t : Nat} : ∀ {ds : List D}, Fits n h t ds → ∀ d ∈ ds, Fit n h t d
  | _ :: _, f, d, hd => by
    rcases List.mem_cons.mp hd with rfl | hd
    · exact f.head.1
    · exact Fits.mem f.head.2 d hd
theorem Fits.len {n h t : Nat} : ∀ {ds : List D}, Fits n h t ds → ds.length ≤ n
  | [], _ => Nat.zero_le _
  | d :: ds, f => by
    have q := f.wt
    simp only [D.pys, PyData.bulkAll] at q
    have g : Fits (n - 1) h t ds := ⟨f.head.2.pl, by omega, f.head.2.dp, f.head.2.tp⟩
    have := Fits.len g
    rw [List.length_cons]
    omega
theorem Fit.item {n h t : Nat} {ds : List D} (f : Fit n h t (.tup ds)) : ∀ d ∈ ds, Fit n h t d := fun d hd => (f.tups.mem d hd).mono (by omega) (by omega) (by omega)
theorem Fit.tlen {n h t : Nat} {ds : List D} (f : Fit n h t (.tup ds)) : ds.length ≤ n := Nat.le_trans f.tups.len (by omega)
theorem Fit.slen {n h t : Nat} {s : Str} (f : Fit n h t (.str s)) : s.length ≤ n := by
  have := f.wt
  simp only [D.py, PyData.bulk] at this
  have e : s.cps.size = s.length := rfl
  omega
theorem Fit.shb {n h t : Nat} {d : D} (f : Fit n h t d) (a : n ≤ 45000) (b : h ≤ 60) : d.shb = true := by
  have p := pf f.pl
  have l := PyData.shown_le_bulk 20 (by decide) d.py p.short
  have w := f.wt
  have e := f.dp
  unfold D.shb
  rw [Bool.and_eq_true, Bool.and_eq_true, Bool.and_eq_true]
  exact ⟨⟨⟨p.full, p.shows⟩, decide_eq_true (by omega)⟩, decide_eq_true (by omega)⟩
theorem Fit.repr {n h t : Nat} {d : D} {S : Sto} (f : Fit n h t d) (a : n ≤ 45000) (b : h ≤ 60) : fRepr [d] S = some (.str d.py.shown, S) := fRepr_of (f.shb a b)
/-! parts of rows -/
theorem Fits.app {n m h t : Nat} : ∀ {xs ys : List D}, Fits n h t xs → Fits m h t ys → Fits (n + m) h t (xs ++ ys)
  | [], _, f, g => g.mono (by omega) (Nat.le_refl _) (Nat.le_refl _)
  | x :: xs, ys, f, g => by
    have q := f.wt
    simp only [D.pys, PyData.bulkAll] at q
    have f1 : Fit (x.py.bulk + 1) h t x := ⟨f.head.1.pl, Nat.le_refl _, f.head.1.dp, f.head.1.tp⟩
    have f2 : Fits (n - (x.py.bulk + 1)) h t xs := ⟨f.head.2.pl, by omega, f.head.2.dp, f.head.2.tp⟩
    exact (Fits.cons f1 (f2.app g)).mono (by omega) (Nat.le_refl _) (Nat.le_refl _)
/-! leaves -/
theorem fit_non {n h t : Nat} (a : 1 ≤ n) : Fit n h t .non := ⟨rfl, a, Nat.zero_le _, Nat.zero_le _⟩
theorem fit_bl {n h t : Nat} {b : Bool} (a : 1 ≤ n) : Fit n h t (.bl b) := ⟨rfl, a, Nat.zero_le _, Nat.zero_le _⟩
theorem fit_str {n h t : Nat} {s : Str} (a : PyData.strOk s = true) (b : s.length + 1 ≤ n) : Fit n h t (.str s) := ⟨by simp only [plainB]; exact a, by simp only [D.py, PyData.bulk]; exact b, Nat.zero_le _, by simp [tupDep]⟩
theorem fit_nm {n h t : Nat} {d : D} (a : NmD d) (b : 9 ≤ n) : Fit n h t d := by
  obtain ⟨s, rfl, hs⟩ := a
  exact fit_str (nm_ok hs) (by have := hs.2.1; omega)
theorem fit_int1 {n h t : Nat} {i : Int} (a : i.natAbs < 1000000000000) (b : 1 ≤ n) : Fit n h t (.int i) := by
  have l1 : i.natAbs.log2 < 40 := by
    by_cases h0 : i.natAbs = 0
    · rw [h0]; decide
    · exact (Nat.log2_lt h0).mpr (Nat.lt_of_lt_of_le a (by decide +kernel))
  refine ⟨?_, ?_, Nat.zero_le _, by simp [tupDep]⟩
  · simp only [plainB, Bool.and_eq_true, decide_eq_true_eq]
    exact ⟨by omega, Nat.le_trans (PyData.shown_int_le a) (by decide)⟩
  · simp only [D.py, PyData.bulk]
    omega
theorem fit_int {n h t : Nat} {i : Int} (a : i.natAbs < 1000000000000) (b : 42 ≤ n) : Fit n h t (.int i) := fit_int1 a (by omega)
/-- of a written thing -/
def fitB (n h t : Nat) (d : D) : Bool := plainB d && decide (d.py.bulk + 1 ≤ n) && decide (d.py.depth ≤ h) && decide (tupDep d ≤ t)
theorem fit_of {n h t : Nat} {d : D} (e : fitB n h t d = true) : Fit n h t d := by
  unfold fitB at e
  rw [Bool.and_eq_true, Bool.and_eq_true, Bool.and_eq_true, decide_eq_true_eq, decide_eq_true_eq, decide_eq_true_eq] at e
  exact ⟨e.1.1.1, e.1.1.2, e.1.2, e.2⟩
end SX
/-! SWb -/
/-! SWb: what the operations come to. -/
namespace SW
open PySem PySem.Spec PyProof.Rows L2 DL SH SX
variable {S : Sto} {Q : D → Sto → Prop} {i j : Int} {a b : Str} {xs ys : List D}
theorem ofs_eq {x y : String} : (Str.ofString x = Str.ofString y) ↔ x = y := by
  refine ⟨fun h => ?_, fun h => by rw [h]⟩
  rw [Str.ofString_eq_toList, Str.ofString_eq_toList] at h
  have h1 : (x.toList.map Char.toNat).toArray = (y.toList.map Char.toNat).toArray := Str.mk.inj h
  have h2 : x.toList.map Char.toNat = y.toList.map Char.toNat := by simpa using h1
  have inj : ∀ (l m : List Char), l.map Char.toNat = m.map Char.toNat → l = m := by
    intro l
    induction l with
    | nil => intro m h; cases m with
      | nil => rfl
      | cons _ _ => simp at h
    | cons c l ih => intro m h; cases m with
      | nil => simp at h
      | cons e m =>
        simp only [List.map_cons, List.cons.injEq] at h
        rw [ih m h.2, Char.toNat_inj.mp h.1]
  exact String.toList_inj.mp (inj _ _ h2)
theorem ofs_beq {x y : String} : (Str.ofString x == Str.ofString y) = (x == y) := by
  rw [Bool.eq_iff_iff, beq_iff_eq, beq_iff_eq, ofs_eq]
theorem cast0 : ((0 : Nat) : Int) = 0 := rfl
theorem cast1 : ((1 : Nat) : Int) = 1 := rfl
theorem cast2 : ((2 : Nat) : Int) = 2 := rfl
theorem cast3 : ((3 : Nat) : Int) = 3 := rfl
theorem cast4 : ((4 : Nat) : Int) = 4 := rfl
theorem cast5 : ((5 : Nat) : Int) = 5 := rfl
theorem at_zero {o : Option D} {r : Env'} : at? (o :: r) 0 = o := rfl
theorem at_succ {o : Option D} {r : Env'} {n : Nat} : at? (o :: r) (n + 1) = at? r n := rfl
theorem wipe_nil {ρ : Env'} : wipeD ρ [] = ρ := rfl
theorem wipe_cons {ρ : Env'} {v : Nat} {vs : List Nat} : wipeD ρ (v :: vs) = (wipeD ρ vs).set v none := rfl
theorem on_gN {n : Nat} {d : D} {ρ : Env'} {P : Env' → Prop} : On (gN n d ρ) P ↔ P (ρ.set n (some d)) := on_some
theorem on_gT {n : Nat} {g : MGs} {ρ : Env'} {P : Env' → Prop} : On (gT n g (.tup xs) ρ) P ↔ xs.length = n ∧ On (g xs ρ) P := by
  show On (if xs.length = n then g xs ρ else none) P ↔ _
  unfold On
  constructor
  · rintro ⟨r, e, q⟩
    obtain ⟨h1, h2⟩ := ifo e
    exact ⟨h1, r, h2, q⟩
  · rintro ⟨h1, r, h2, q⟩
    exact ⟨r, by rw [if_pos h1]; exact h2, q⟩
theorem on_gNl {ρ : Env'} {P : Env' → Prop} : On (gNl [] ρ) P ↔ P ρ := on_some
theorem on_gCn {g : MG} {h : MGs} {d : D} {ds : List D} {ρ : Env'} {P : Env' → Prop} : On (gCn g h (d :: ds) ρ) P ↔ On (g d ρ) fun ρ1 => On (h ds ρ1) P := by
  show On ((g d ρ).bind (h ds)) P ↔ _
  unfold On
  cases g d ρ with
  | none => simp
  | some r => simp
theorem wb_ite {c : Prop} [Decidable c] {d : D} : (∃ z S', (if c then some (d, S) else none) = some (z, S') ∧ Q z S') ↔ c ∧ Q d S := by rw [ite_iff, some_iff]
theorem wb_addI : WB fAdd (.int i) (.int j) S Q ↔ Q (.int (i + j)) S := some_iff
theorem wb_addS : WB fAdd (.str a) (.str b) S Q ↔ a.length + b.length ≤ 1000000 ∧ Q (.str (a ++ b)) S := wb_ite
theorem wb_addL : WB fAdd (.lst xs) (.lst ys) S Q ↔ xs.length + ys.length ≤ 1000000 ∧ Q (.lst (xs ++ ys)) S := wb_ite
theorem wb_addT : WB fAdd (.tup xs) (.tup ys) S Q ↔ xs.length + ys.length ≤ 1000000 ∧ Q (.tup (xs ++ ys)) S := wb_ite
theorem wb_subI : WB fSub (.int i) (.int j) S Q ↔ Q (.int (i - j)) S := some_iff
theorem wb_mulI : WB fMul (.int i) (.int j) S Q ↔ ((-(2 ^ 64) < i ∧ i < 2 ^ 64) ∨ (-(2 ^ 64) < j ∧ j < 2 ^ 64)) ∧ Q (.int (i * j)) S := wb_ite
theorem wb_mulL : WB fMul (.lst xs) (.int j) S Q ↔ (0 ≤ j ∧ j ≤ 1000000 ∧ xs.length * j.toNat ≤ 1000000) ∧ Q (.lst (List.replicate j.toNat xs).flatten) S := wb_ite
theorem wb_mulS : WB fMul (.str a) (.int j) S Q ↔ (0 ≤ j ∧ j ≤ 1000000 ∧ a.length * j.toNat ≤ 1000000) ∧ Q (.str (repS a j)) S := wb_ite
theorem wb_mulT : WB fMul' (.tup xs) (.int j) S Q ↔ (xs.isEmpty = false ∧ -1000 ≤ j ∧ j ≤ 1000 ∧ xs.length ≤ 1000) ∧ Q (.tup (if j ≤ 0 then [] else (List.replicate j.toNat xs).flatten)) S := wb_ite
theorem wb_mod : WB fMod (.int i) (.int j) S Q ↔ 0 < j ∧ Q (.int (i % j)) S := wb_ite
theorem wb_div : WB fDiv (.int i) (.int j) S Q ↔ (0 < j ∧ j < 1073741824) ∧ Q (.int (i / j)) S := wb_ite
theorem wb_pow : WB fPow (.int i) (.int j) S Q ↔ (0 ≤ j ∧ j ≤ 1000000 ∧ i.natAbs < 2 ^ 64) ∧ Q (.int (i ^ j.toNat)) S := wb_ite
theorem wb_cmp {g : Int → Int → Bool} : WB (fCmp g) (.int i) (.int j) S Q ↔ Q (.bl (g i j)) S := some_iff
theorem wb_eqI : WB fEq (.int i) (.int j) S Q ↔ Q (.bl (i == j)) S := some_iff
theorem wb_eqS : WB fEq (.str a) (.str b) S Q ↔ Q (.bl (a == b)) S := some_iff
theorem wb_eqB {x y : Bool} : WB fEq (.bl x) (.bl y) S Q ↔ Q (.bl (x == y)) S := some_iff
theorem wb_neI : WB fNe (.int i) (.int j) S Q ↔ Q (.bl (!(i == j))) S := some_iff
theorem wb_neS : WB fNe (.str a) (.str b) S Q ↔ Q (.bl (!(a == b))) S := some_iff
def nonB : D → Bool
  | .non => true
  | _ => false
theorem wb_isN {neg : Bool} {d : D} : WB (fIsN neg) d .non S Q ↔ Q (.bl (if neg then !nonB d else nonB d)) S := by
  refine wb_is ?_
  cases d <;> cases neg <;> rfl
theorem atI_nn {α : Type} {xs : List α} {n : Nat} : atI xs (n : Int) = xs[n]? := by
  cases e : xs[n]? with
  | some d => exact atI_nat e
  | none =>
    unfold atI
    have : ixN xs.length (n : Int) = none := by
      have hl : xs.length ≤ n := by simpa using e
      unfold ixN
      rw [if_pos (by omega), if_neg (by omega)]
    rw [this]
    rfl
theorem wb_ixT {n : Nat} : WB fIx (.tup xs) (.int (n : Int)) S Q ↔ On xs[n]? fun d => Q d S := by
  show (∃ d S', (atI xs (n : Int)).map _ = some (d, S') ∧ Q d S') ↔ _
  rw [opt_iff, atI_nn]
theorem wb_ixL {n : Nat} : WB fIx (.lst xs) (.int (n : Int)) S Q ↔ On xs[n]? fun d => Q d S := by
  show (∃ d S', (atI xs (n : Int)).map _ = some (d, S') ∧ Q d S') ↔ _
  rw [opt_iff, atI_nn]
theorem wb_ixT0 : WB fIx (.tup xs) (.int 0) S Q ↔ On xs[0]? fun d => Q d S := wb_ixT (n := 0)
theorem wb_ixT1 : WB fIx (.tup xs) (.int 1) S Q ↔ On xs[1]? fun d => Q d S := wb_ixT (n := 1)
theorem wb_ixT2 : WB fIx (.tup xs) (.int 2) S Q ↔ On xs[2]? fun d => Q d S := wb_ixT (n := 2)
theorem wb_ixL0 : WB fIx (.lst xs) (.int 0) S Q ↔ On xs[0]? fun d => Q d S := wb_ixL (n := 0)
theorem wb_ixL1 : WB fIx (.lst xs) (.int 1) S Q ↔ On xs[1]? fun d => Q d S := wb_ixL (n := 1)
theorem wb_ixL2 : WB fIx (.lst xs) (.int 2) S Q ↔ On xs[2]? fun d => Q d S := wb_ixL (n := 2)
theorem wf_lenT : WF fLen [.tup xs] S Q ↔ Q (.int xs.length) S := some_iff
theorem wf_lenL : WF fLen [.lst xs] S Q ↔ Q (.int xs.length) S := some_iff
theorem wf_lenS : WF fLen [.str a] S Q ↔ a.length ≤ 1000000 ∧ Q (.int a.length) S := wb_ite
theorem wf_intI : WF fInt [.int i] S Q ↔ Q (.int i) S := some_iff
theorem wf_intB {x : Bool} : WF fInt [.bl x] S Q ↔ Q (.int (if x then 1 else 0)) S := some_iff
theorem wf_tupL : WF fTup [.lst xs] S Q ↔ Q (.tup xs) S := some_iff
theorem wf_tupT : WF fTup [.tup xs] S Q ↔ Q (.tup xs) S := some_iff
theorem wf_lisT : WF fLis [.tup xs] S Q ↔ Q (.lst xs) S := some_iff
theorem wf_lisL : WF fLis [.lst xs] S Q ↔ Q (.lst xs) S := some_iff
theorem wf_min : WF fMin2 [.int i, .int j] S Q ↔ Q (.int (if j < i then j else i)) S := some_iff
theorem slT {lo hi : Option Int} {P : D → Prop} : On (fSl (.tup xs) lo hi) P ↔ P (.tup (cutD xs lo hi)) := on_some
theorem slL {lo hi : Option Int} {P : D → Prop} : On (fSl (.lst xs) lo hi) P ↔ P (.lst (cutD xs lo hi)) := on_some
theorem slS {lo hi : Option Int} {P : D → Prop} : On (fSl (.str a) lo hi) P ↔ a.length ≤ 1000000 ∧ P (.str (cutS a lo hi)) := by
  show On (if a.length ≤ 1000000 then some (D.str (cutS a lo hi)) else none) P ↔ _
  unfold On
  constructor
  · rintro ⟨r, e, q⟩
    obtain ⟨h1, h2⟩ := ifs e
    cases h2
    exact ⟨h1, q⟩
  · rintro ⟨h1, q⟩
    exact ⟨_, by rw [if_pos h1], q⟩
/-! kinds -/
def isI (T : String) : D → Bool
  | .non => isA T "NoneType"
  | .bl _ => isA T "bool"
  | .int _ => isA T "int"
  | .str _ => isA T "str"
  | .tup _ => isA T "tuple"
  | .lst _ => isA T "list"
  | .rol _ => isA T "list"
  | .dct _ _ => isA T "dict"
  | .loc _ => false
theorem isOf_full {T : String} {d : D} (h : d.full = true) : isOf T d S = some (isI T d) := by
  cases d <;> first | rfl | (simp [D.full] at h)
theorem isOf_non {T : String} : isOf T .non S = some (isA T "NoneType") := rfl
theorem isOf_bl {T : String} {x : Bool} : isOf T (.bl x) S = some (isA T "bool") := rfl
theorem isOf_int {T : String} : isOf T (.int i) S = some (isA T "int") := rfl
theorem isOf_str {T : String} : isOf T (.str a) S = some (isA T "str") := rfl
theorem isOf_tup {T : String} : isOf T (.tup xs) S = some (isA T "tuple") := rfl
theorem isOf_lst {T : String} : isOf T (.lst xs) S = some (isA T "list") := rfl
theorem isOf_rol {T : String} : isOf T (.rol xs) S = some (isA T "list") := rfl
theorem isOf_dct {T : String} {ks : List Key} : isOf T (.dct ks xs) S = some (isA T "dict") := rfl
theorem on_trB {x : Bool} {P : Bool → Prop} : On (trD (.bl x) S) P ↔ P x := on_some
theorem on_trT {P : Bool → Prop} : On (trD (.tup xs) S) P ↔ P (!xs.isEmpty) := on_some
theorem on_trL {P : Bool → Prop} : On (trD (.lst xs) S) P ↔ P (!xs.isEmpty) := on_some
theorem itT {P : List D → Prop} : On (itOf (.tup xs)) P ↔ P xs := on_some
theorem itL {P : List D → Prop} : On (itOf (.lst xs)) P ↔ P xs := on_some
theorem itS {P : List D → Prop} : On (itOf (.str a)) P ↔ a.length ≤ 1000000 ∧ P (a.cps.toList.map fun c => .str ⟨#[c]⟩) := by
  show On (if a.length ≤ 1000000 then some _ else none) P ↔ _
  unfold On
  constructor
  · rintro ⟨r, e, q⟩
    obtain ⟨h1, h2⟩ := ifs e
    cases h2
    exact ⟨h1, q⟩
  · rintro ⟨h1, q⟩
    exact ⟨_, by rw [if_pos h1], q⟩
/-! a thing beside a text -/
def isK (z : Str) : D → Bool
  | .str x => x == z
  | _ => false
theorem not_eqv {d : D} {z : Str} (h : ∀ x, d ≠ .str x) (hc : d.full = true) : PyData.eqv d.py (D.str z).py = false := by
  cases d <;> first | exact absurd rfl (h _) | (simp [D.py, PyData.eqv]; done) | (simp [D.full] at hc)
theorem fEq_K {d : D} {z : Str} (hc : d.full = true) : fEq d (.str z) S = some (.bl (isK z d), S) := by
  unfold fEq
  by_cases hs : scalD d (.str z) = true
  · rw [if_pos hs]
    cases d <;> first | (cases hs; done) | rfl
  · rw [if_neg hs, see_full hc, see_full (d := .str z) rfl]
    have hn : ∀ x, d ≠ .str x := fun x e => by
      subst e
      exact hs rfl
    have e0 : isK z d = false := by
      cases d <;> first | rfl | exact absurd rfl (hn _)
    rw [e0]
    split
    · rw [not_eqv hn hc]
    · split
      · rfl
      · rename_i h1 h2
        cases d <;> first | (exact absurd rfl h2; done) | rfl | (simp [D.full] at hc; done) | (exact absurd rfl hs; done)
theorem wb_eqK {d : D} {z : Str} (hc : d.full = true) : WB fEq d (.str z) S Q ↔ Q (.bl (isK z d)) S := wb_is (fEq_K hc)
theorem eqv_anyS {d : D} (hn : ∀ x, d ≠ .str x) (hc : d.full = true) : ∀ zs : List Str, ((D.pys (zs.map D.str)).any fun z => PyData.eqv z d.py) = false
  | [] => rfl
  | z :: zs => by
    simp only [List.map_cons, D.pys, List.any_cons, eqv_anyS hn hc zs, Bool.or_false]
    cases d <;> first | exact absurd rfl (hn _) | (simp [D.py, PyData.eqv]; done) | (simp [D.full] at hc)
theorem all_scalS : ∀ zs : List Str, (zs.map D.str).all D.scal = true
  | [] => rfl
  | _ :: zs => by
    rw [List.map_cons, List.all_cons, all_scalS zs]
    rfl
theorem all_isStrS : ∀ zs : List Str, (zs.map D.str).all D.isStr = true
  | [] => rfl
  | _ :: zs => by
    rw [List.map_cons, List.all_cons, all_isStrS zs]
    rfl
theorem sbeq {x z : Str} : (x == z) = (z == x) := by
  rw [Bool.eq_iff_iff, beq_iff_eq, beq_iff_eq]
  exact eq_comm
theorem fIn_K {d e : D} {zs : List Str} (he : seqOf e = some (zs.map D.str)) (hc : d.full = true) : fIn false d e S = some (.bl (zs.any fun z => isK z d), S) := by
  have h2 : ∀ s, e ≠ .str s := fun s q => by
    subst q
    cases he
  have e1 : fIn false d e S = if d.scal = true ∧ (zs.map D.str).all D.scal = true then some (.bl ((zs.map D.str).any fun z => eqS z d), S)
        else if d.cmpb = true ∧ e.cmpb = true then some (.bl ((D.pys (zs.map D.str)).any fun z => PyData.eqv z d.py), S)
        else if false = false ∧ d.isDct = true ∧ (zs.map D.str).all D.isStr = true then some (.bl false, S)
        else if false = false ∧ d.isRow = true ∧ (zs.map D.str).all D.isStr = true then some (.bl false, S) else none := by
    unfold fIn
    cases d <;> cases e <;> first | exact absurd rfl (h2 _) | (simp only [he]; rfl)
  rw [e1, all_scalS, all_isStrS]
  by_cases hs : d.scal = true
  · rw [if_pos ⟨hs, rfl⟩]
    congr 3
    rw [List.any_map]
    congr 1
    funext z
    cases d <;> first | (cases hs; done) | rfl | exact sbeq
  · rw [if_neg (fun q => hs q.1)]
    have hn : ∀ x, d ≠ .str x := fun x e => by
      subst e
      exact hs rfl
    have e0 : (zs.any fun z => isK z d) = false := by
      rw [List.any_eq_false]
      intro z _
      cases d <;> first | exact absurd rfl (hn _) | (simp [isK])
    rw [e0, eqv_anyS hn hc]
    split
    · rfl
    · cases d <;> first | (exact absurd rfl hs; done) | rfl | (simp [D.full] at hc)
theorem wb_inK {d e : D} {zs : List Str} (he : seqOf e = some (zs.map D.str)) (hc : d.full = true) : WB (fIn false) d e S Q ↔ Q (.bl (zs.any fun z => isK z d)) S := wb_is (fIn_K he hc)
theorem fIn_KN {d : D} {e : D} {zs : List Str} {x : Str} (he : seqOf e = some (zs.map D.str)) (hd : d = .str x) : fIn true d e S = some (.bl (!zs.any fun z => isK z d), S) := by
  subst hd
  have h2 : ∀ s, e ≠ .str s := fun s q => by
    subst q
    cases he
  have e1 : fIn true (.str x) e S = if D.scal (.str x) = true ∧ (zs.map D.str).all D.scal = true then some (.bl (!(zs.map D.str).any fun z => eqS z (.str x)), S) else none := by
    unfold fIn
    cases e <;> first | exact absurd rfl (h2 _) | (simp only [he, all_scalS]; rfl)
  rw [e1, all_scalS, if_pos ⟨rfl, rfl⟩, List.any_map]
  congr 4
  congr 1
  funext z
  exact sbeq
/-- a tuple beside an empty one -/
theorem eqvAll_nil {ps : List PyData} : PyData.eqvAll ps [] = ps.isEmpty := by
  cases ps <;> simp [PyData.eqvAll]
theorem wb_eqE : (D.tup xs).full = true → (WB fEq (.tup xs) (.tup []) S Q ↔ Q (.bl xs.isEmpty) S) := fun hc => wb_is (by
  unfold fEq
  rw [if_neg (fun q => by cases q), see_full hc, see_full (d := .tup []) rfl]
  split
  · congr 3
    simp only [D.py, PyData.eqv, D.pys]
    rw [eqvAll_nil]
    cases xs <;> simp [D.pys]
  · rw [if_neg (fun q => by cases q)]
    show (if xs.isEmpty = true ∨ ([] : List D).isEmpty = true then some (D.bl (xs.isEmpty && ([] : List D).isEmpty), S) else none) = _
    rw [if_pos (.inr rfl)]
    simp)
theorem cut_from {k : Nat} : DL.cutD xs (some (k : Int)) none = xs.drop k := cutD_from k
theorem cut_upto {k : Nat} : DL.cutD xs none (some (k : Int)) = xs.take k := cutD_upto k
theorem cut1 : DL.cutD xs (some 1) none = xs.drop 1 := cutD_from 1
end SW
/-! SXb -/
/-! SXb: the program's looks at words, at anything. -/
namespace SX
open PySem PySem.Spec PyProof.Rows L2 DL SH SW
local macro_rules | `(tactic| walk_at "sw") => `(tactic| simp only [we_var, we_c, we_bin, we_call, wa_nil, wa_cons, we_tup, we_lst, we_cel, we_dic, we_neg, wo_np, wo_pt, we_sl, we_isi, we_st0, we_din, we_dix, we_andV, we_orV, we_notV, we_if, we_chn, we_get2, wt_bl, wt_tr, wt_not, wt_and, wt_or, wt_yes, ws_next, ws_seq, ws_ret, ws_drop, ws_set, ws_if, ws_brk, ws_cnt, ws_asg, ws_par, ws_aug, wf_fn, wa_sq, wa_rg, wr_nil, wr_cons, we_app, we_ext, we_pop, on_some, intOf_int, strOf_str, blOf_bl, nx_nx, nx_rt, nx_bk, nx_ct, rt_rt, rt_nx, tn_nx, tn_ct, tn_bk, tn_rt, at_zero, at_succ, wipe_nil, wipe_cons, on_gN, on_gT, on_gNl, on_gCn, wb_addI, wb_addS, wb_addL, wb_addT, wb_subI, wb_mulI, wb_mulL, wb_mulS, wb_mulT, wb_mod, wb_div, wb_pow, wb_cmp, wb_eqI, wb_eqS, wb_eqB, wb_neI, wb_neS, wb_isN, wb_ixT0, wb_ixT1, wb_ixT2, wb_ixL0, wb_ixL1, wb_ixL2, wf_lenT, wf_lenL, wf_lenS, wf_intI, wf_intB, wf_tupL, wf_tupT, wf_lisT, wf_lisL, wf_min, slT, slL, slS, on_trB, on_trT, on_trL, itT, itL, itS, cut1, List.set_cons_zero, List.set_cons_succ, List.map_cons, List.map_nil, List.length_cons, List.length_nil, Nat.reduceAdd, Nat.reduceSub, List.replicate_succ, List.replicate_zero, List.cons_append, List.nil_append, List.append_nil, if_true, if_false, Bool.false_eq_true, Bool.not_true, Bool.not_false, List.getElem?_cons_zero, List.getElem?_cons_succ, List.drop_succ_cons, List.drop_zero, isOf_non, isOf_bl, isOf_int, isOf_str, isOf_tup, isOf_lst, isOf_rol, isOf_dct, isA, String.reduceBEq, Bool.or_self, Bool.false_or, Bool.or_false, Bool.and_false, Bool.false_and, Bool.and_true, Bool.true_and, Bool.true_or, Bool.or_true, Bool.and_self, ofs_beq, cast0, cast1, cast2, cast3, cast4, cast5, beq_self_eq_true, Int.reduceLE, Int.reduceLT, Int.reduceAdd, Int.reduceSub, Int.reduceNeg, decide_true, decide_false, we_lc, we_lcC, ws_for, abs10, getO_str, Nat.reduceLT])
def b_is_integer : MS :=
    (sRet (mAndV (mIsi "int" (mVar 0)) (mNotV (mIsi "bool" (mVar 0)))))
def m_is_integer : MF := mFn 1 b_is_integer
def b_is_tuple : MS :=
    (sRet (mAndV (mIsi "tuple" (mVar 0)) (mChn (fCmp fun i j => decide (i ≤ j)) (fCmp fun i j => decide (i ≤ j)) (mVar 1) (mCall fLen (mCons (mVar 0) mNil)) (mVar 2))))
def m_is_tuple : MF := mFn 3 b_is_tuple
def b_is_name : MS :=
    (sSeq (sIf (mOrT (mNotT (mTr (mIsi "str" (mVar 0)))) (mBl (mBin (fCmp fun i j => decide (j < i)) (mCall fLen (mCons (mVar 0) mNil)) (mC (.int 8))))) (sRet (mC (.bl false))) sNext)
    (sRet (mAndV (mSt0 (fun y => .bl (Txt.isascii y)) (mVar 0)) (mAndV (mSt0 (fun y => .bl (Txt.isalpha y)) (mVar 0)) (mSt0 (fun y => .bl (Txt.islower y)) (mVar 0))))))
def m_is_name : MF := mFn 1 b_is_name
def b_is_ref : MS :=
    (sRet (mOrV (mCall m_is_name (mCons (mVar 0) mNil)) (mAndV (mCall m_is_tuple (mCons (mVar 0) (mCons (mC (.int 2)) (mCons (mC (.int 2)) mNil)))) (mAndV (mCall m_is_name (mCons (mBin fIx (mVar 0) (mC (.int 0))) mNil)) (mCall m_is_name (mCons (mBin fIx (mVar 0) (mC (.int 1))) mNil))))))
def m_is_ref : MF := mFn 1 b_is_ref
def b_is_constant : MS :=
    (sSeq (sIf (mOrT (mNotT (mTr (mCall m_is_tuple (mCons (mVar 0) (mCons (mC (.int 2)) (mCons (mC (.int 2)) mNil)))))) (mNotT (mTr (mIsi "str" (mBin fIx (mVar 0) (mC (.int 0))))))) (sRet (mC (.bl false))) sNext)
    (sSeq (sAsg (gT 2 (gCn (gN 1) (gCn (gN 2) gNl))) (mVar 0))
    (sSeq (sIf (mBl (mBin fEq (mVar 1) (mC (.str "int")))) (sRet (mAndV (mCall m_is_integer (mCons (mVar 2) mNil)) (mChn (fCmp fun i j => decide (i ≤ j)) (fCmp fun i j => decide (i ≤ j)) (mNeg (mC (.int 1000000000000000000))) (mVar 2) (mC (.int 1000000000000000000))))) sNext)
    (sRet (mAndV (mBin fEq (mVar 1) (mC (.str "text"))) (mAndV (mIsi "str" (mVar 2)) (mBin (fCmp fun i j => decide (i ≤ j)) (mCall fLen (mCons (mVar 2) mNil)) (mC (.int 20)))))))))
def m_is_constant : MF := mFn 3 b_is_constant
variable {S : Sto} {Q : D → Sto → Prop} {n h t : Nat} {d : D}
/-- a thing of any kind, no greater than a million -/
structure Any (d : D) : Prop where
  ex : ∃ n h t, Fit n h t d ∧ n ≤ 1000000
theorem Any.full (a : Any d) : d.full = true := let ⟨_, _, _, f, _⟩ := a.ex; f.full
theorem Any.slen {s : Str} (a : Any (.str s)) : s.length ≤ 1000000 := let ⟨_, _, _, f, h⟩ := a.ex; Nat.le_trans f.slen h
theorem Any.tlen {ds : List D} (a : Any (.tup ds)) : ds.length ≤ 1000000 := let ⟨_, _, _, f, h⟩ := a.ex; Nat.le_trans f.tlen h
theorem Any.item {ds : List D} (a : Any (.tup ds)) : ∀ x ∈ ds, Any x := fun x hx => let ⟨_, _, _, f, h⟩ := a.ex; ⟨_, _, _, f.item x hx, h⟩
theorem Any.cut {ds es : List D} (a : Any (.tup ds)) (h : ∀ e ∈ es, e ∈ ds) (l : es.length ≤ ds.length) : (D.tup es).full = true := by
  have key : ∀ es : List D, (∀ e ∈ es, e.full = true) → D.fulls es = true := fun es => by
    induction es with
    | nil => intro _; rfl
    | cons e es ih =>
      intro h
      simp only [D.fulls, Bool.and_eq_true]
      exact ⟨h e (List.mem_cons_self ..), ih fun x hx => h x (List.mem_cons_of_mem _ hx)⟩
  simp only [D.full]
  exact key es fun e he => (a.item e (h e he)).full
theorem Fit.any (f : Fit n h t d) (a : n ≤ 1000000) : Any d := ⟨n, h, t, f, a⟩
/-- a name, by look -/
def nmB (s : Str) : Bool := decide (1 ≤ s.length) && decide (s.length ≤ 8) && s.cps.toList.all LetB
theorem nmb {s : Str} (h : nmB s = true) : Nm s := by
  unfold nmB at h
  rw [Bool.and_eq_true, Bool.and_eq_true, decide_eq_true_eq, decide_eq_true_eq] at h
  exact ⟨h.1.1, h.1.2, fun c hc => List.all_eq_true.mp h.2 c hc⟩
theorem nmb_of {s : Str} (h : Nm s) : nmB s = true := by
  unfold nmB
  rw [Bool.and_eq_true, Bool.and_eq_true, decide_eq_true_eq, decide_eq_true_eq]
  exact ⟨⟨h.1, h.2.1⟩, List.all_eq_true.mpr h.2.2⟩
theorem ascii_let : ((List.range 128).all fun c => !(Unicode.isAlpha c) || (Unicode.isUpper c || Unicode.isTitle c) || LetB c) = true := by decide +kernel
theorem prog_look {s : Str} (h8 : s.length ≤ 8) : (Txt.isascii s && (Txt.isalpha s && Txt.islower s)) = nmB s := by
  rw [Bool.eq_iff_iff, Bool.and_eq_true, Bool.and_eq_true]
  constructor
  · rintro ⟨h1, h2, h3⟩
    have h1 : s.cps.all _ = true := h1
    have h2 : (decide (s.length > 0) && s.cps.all _) = true := h2
    have h3 : (s.cps.any _ && !s.cps.any _) = true := h3
    rw [← Array.all_toList, List.all_eq_true] at h1
    rw [Bool.and_eq_true, ← Array.all_toList, List.all_eq_true, decide_eq_true_eq] at h2
    rw [Bool.and_eq_true, Bool.not_eq_true', ← Array.any_toList, ← Array.any_toList, List.any_eq_false] at h3
    refine nmb_of ⟨h2.1, h8, fun c hc => ?_⟩
    have a1 : c < 128 := by simpa using h1 c hc
    have a2 := h2.2 c hc
    have a3 := h3.2 c hc
    have q := List.all_eq_true.mp ascii_let c (List.mem_range.mpr a1)
    have a3 : (Unicode.isUpper c || Unicode.isTitle c) = false := by simpa using a3
    rw [a2, a3] at q
    simpa using q
  · intro h
    have h := nmb h
    exact ⟨nm_ascii h, nm_alpha h, nm_lower h⟩
def nmAny : D → Bool
  | .str s => nmB s
  | _ => false
theorem nmT {xs : List D} : nmAny (.tup xs) = false := rfl
theorem is_name (a : Any d) : m_is_name [d] S = some (.bl (nmAny d), S) := by
  refine wf_eq ?_
  unfold m_is_name b_is_name
  cases d <;> try (walk_at "sw"; simp [nmAny]; done)
  · rename_i s
    have hl := a.slen
    walk_at "sw"
    refine ⟨hl, ?_⟩
    by_cases h8 : (8 : Int) < s.length
    · have : nmB s = false := by
        unfold nmB
        rw [decide_eq_false (p := s.length ≤ 8) (by omega), Bool.and_false, Bool.false_and]
      simp [nmAny, this, h8]
    · have e := prog_look (s := s) (by omega)
      rw [if_neg (by simpa using h8)]
      simp only [nmAny, ← e]
      cases Txt.isascii s <;> cases Txt.isalpha s <;> simp
  · have := a.full
    simp [D.full] at this
def tupB (lo hi : Int) : D → Bool
  | .tup xs => decide (lo ≤ (xs.length : Int)) && decide ((xs.length : Int) ≤ hi)
  | _ => false
theorem is_tuple {lo hi : Int} (a : d.full = true) : m_is_tuple [d, .int lo, .int hi] S = some (.bl (tupB lo hi d), S) := by
  refine wf_eq ?_
  unfold m_is_tuple b_is_tuple
  cases d <;> try (walk_at "sw"; simp [tupB]; done)
  · rename_i xs
    walk_at "sw"
    by_cases h : lo ≤ (xs.length : Int) <;> simp [tupB, h]
  · simp [D.full] at a
def refAny : D → Bool
  | .tup xs => decide (xs.length = 2) && xs.all nmAny
  | d => nmAny d
theorem is_ref (a : Any d) : m_is_ref [d] S = some (.bl (refAny d), S) := by
  refine wf_eq ?_
  unfold m_is_ref b_is_ref
  walk_at "sw"
  rw [wf_is (is_name a)]
  walk_at "sw"
  rw [wf_is (is_tuple a.full)]
  walk_at "sw"
  cases d <;> try (simp [refAny, nmAny, tupB]; done)
  · rename_i xs
    match xs, a with
    | [], _ => simp [refAny, nmAny, tupB]
    | [x], _ => simp [refAny, nmAny, tupB]
    | [x, y], a =>
      simp only [refAny, nmT, tupB]
      walk_at "sw"
      rw [wf_is (is_name (a.item x (by simp)))]
      walk_at "sw"
      rw [wf_is (is_name (a.item y (by simp)))]
      cases hx : nmAny x <;> cases hy : nmAny y <;> simp [hx, hy]
    | x :: y :: z :: r, _ =>
      have : ¬ (((r.length : Nat) : Int) + 1 + 1 + 1 ≤ 2) := by omega
      simp [refAny, nmAny, tupB, this]
def intB : D → Bool
  | .int _ => true
  | _ => false
theorem is_integer (a : d.full = true) : m_is_integer [d] S = some (.bl (intB d), S) := by
  refine wf_eq ?_
  unfold m_is_integer b_is_integer
  cases d <;> try (walk_at "sw"; simp [intB]; done)
  simp [D.full] at a
def conAny : D → Bool
  | .tup [.str w, p] => if w = "int" then (match p with
      | .int i => decide (-1000000000000000000 ≤ i) && decide (i ≤ 1000000000000000000)
      | _ => false) else w == "text" && (match p with
      | .str s => decide (s.length ≤ 20)
      | _ => false)
  | _ => false
theorem is_constant (a : Any d) : m_is_constant [d] S = some (.bl (conAny d), S) := by
  refine wf_eq ?_
  unfold m_is_constant b_is_constant
  walk_at "sw"
  rw [wf_is (is_tuple a.full)]
  walk_at "sw"
  cases d <;> try (simp [conAny, tupB]; done)
  rename_i xs
  match xs, a with
  | [], _ => simp [conAny, tupB]
  | [x], _ => simp [conAny, tupB]
  | [x, y], a =>
    have ax := (a.item x (by simp)).full
    have ay := a.item y (by simp)
    simp only [tupB]
    walk_at "sw"
    cases x <;> try (walk_at "sw"; simp [conAny]; done)
    · rename_i w
      walk_at "sw"
      by_cases hw : w = "int"
      · subst hw
        rw [wf_is (is_integer ay.full)]
        walk_at "sw"
        cases y <;> try (simp [conAny, intB]; done)
        · rename_i i
          walk_at "sw"
          by_cases h1 : -1000000000000000000 ≤ i <;> simp [conAny, intB, h1]
      · have e : (w == ("int" : Str)) = false := beq_eq_false_iff_ne.mpr hw
        rw [if_neg (by simp [e])]
        by_cases ht : w = "text"
        · subst ht
          walk_at "sw"
          cases y <;> try (walk_at "sw"; simp [conAny, ofs_eq]; done)
          · have := ay.slen
            walk_at "sw"
            simp [conAny, ofs_eq, this]
            congr 1
            omega
          · have := ay.full
            simp [D.full] at this
        · have e2 : (w == ("text" : Str)) = false := beq_eq_false_iff_ne.mpr ht
          rw [if_neg (by simp [e2])]
          simp [conAny, e, e2, hw]
    · simp [D.full] at ax
  | x :: y :: z :: r, _ =>
    have : ¬ (((r.length : Nat) : Int) + 1 + 1 + 1 ≤ 2) := by omega
    simp [conAny, tupB, this]
end SX
/-! SXc -/
/-! SXc: the program's look at an expression. -/
namespace SX
open PySem PySem.Spec PyProof.Rows L2 DL SH SW
local macro_rules | `(tactic| walk_at "sw") => `(tactic| simp only [we_var, we_c, we_bin, we_call, wa_nil, wa_cons, we_tup, we_lst, we_cel, we_dic, we_neg, wo_np, wo_pt, we_sl, we_isi, we_st0, we_din, we_dix, we_andV, we_orV, we_notV, we_if, we_chn, we_get2, wt_bl, wt_tr, wt_not, wt_and, wt_or, wt_yes, ws_next, ws_seq, ws_ret, ws_drop, ws_set, ws_if, ws_brk, ws_cnt, ws_asg, ws_par, ws_aug, wf_fn, wa_sq, wa_rg, wr_nil, wr_cons, we_app, we_ext, we_pop, on_some, intOf_int, strOf_str, blOf_bl, nx_nx, nx_rt, nx_bk, nx_ct, rt_rt, rt_nx, tn_nx, tn_ct, tn_bk, tn_rt, at_zero, at_succ, wipe_nil, wipe_cons, on_gN, on_gT, on_gNl, on_gCn, wb_addI, wb_addS, wb_addL, wb_addT, wb_subI, wb_mulI, wb_mulL, wb_mulS, wb_mulT, wb_mod, wb_div, wb_pow, wb_cmp, wb_eqI, wb_eqS, wb_eqB, wb_neI, wb_neS, wb_isN, wb_ixT0, wb_ixT1, wb_ixT2, wb_ixL0, wb_ixL1, wb_ixL2, wf_lenT, wf_lenL, wf_lenS, wf_intI, wf_intB, wf_tupL, wf_tupT, wf_lisT, wf_lisL, wf_min, slT, slL, slS, on_trB, on_trT, on_trL, itT, itL, itS, cut1, List.set_cons_zero, List.set_cons_succ, List.map_cons, List.map_nil, List.length_cons, List.length_nil, Nat.reduceAdd, Nat.reduceSub, List.replicate_succ, List.replicate_zero, List.cons_append, List.nil_append, List.append_nil, if_true, if_false, Bool.false_eq_true, Bool.not_true, Bool.not_false, List.getElem?_cons_zero, List.getElem?_cons_succ, List.drop_succ_cons, List.drop_zero, isOf_non, isOf_bl, isOf_int, isOf_str, isOf_tup, isOf_lst, isOf_rol, isOf_dct, isA, String.reduceBEq, Bool.or_self, Bool.false_or, Bool.or_false, Bool.and_false, Bool.false_and, Bool.and_true, Bool.true_and, Bool.true_or, Bool.or_true, Bool.and_self, ofs_beq, cast0, cast1, cast2, cast3, cast4, cast5, beq_self_eq_true, Int.reduceLE, Int.reduceLT, Int.reduceAdd, Int.reduceSub, Int.reduceNeg, decide_true, decide_false, we_lc, we_lcC, ws_for, abs10, getO_str, Nat.reduceLT])
def tab_OPERATORS : List (Str × D) := [("add", (.tup [(.tup [(.str "int"), (.str "int")]), (.str "int")])), ("join", (.tup [(.tup [(.str "text"), (.str "text")]), (.str "text")])), ("less", (.tup [(.tup [(.str "int"), (.str "int")]), (.str "truth")])), ("equal", (.tup [(.tup [(.str "int"), (.str "int")]), (.str "truth")])), ("alike", (.tup [(.tup [(.str "text"), (.str "text")]), (.str "truth")])), ("and", (.tup [(.tup [(.str "truth"), (.str "truth")]), (.str "truth")])), ("not", (.tup [(.tup [(.str "truth")]), (.str "truth")]))]
def tab_PLACES : List (Str × D) := [("column", (.tup [(.str "rule"), (.str "check"), (.str "index"), (.str "trigger")])), ("value", (.tup [(.str "domain")])), ("param", (.tup [(.str "body")])), ("next", (.tup [(.str "default")]))]
def b_is_leaf : MS :=
    (sSeq (sIf (mBl (mBin fEq (mBin fIx (mVar 0) (mC (.int 0))) (mC (.str "value")))) (sRet (mBin fEq (mCall fLen (mCons (mVar 0) mNil)) (mC (.int 1)))) sNext)
    (sSeq (sIf (mBl (mBin fNe (mCall fLen (mCons (mVar 0) mNil)) (mC (.int 2)))) (sRet (mC (.bl false))) sNext)
    (sSeq (sAsg (gT 2 (gCn (gN 1) (gCn (gN 2) gNl))) (mVar 0))
    (sSeq (sIf (mBl (mBin fEq (mVar 1) (mC (.str "column")))) (sRet (mCall m_is_name (mCons (mVar 2) mNil))) sNext)
    (sSeq (sIf (mBl (mBin fEq (mVar 1) (mC (.str "param")))) (sRet (mAndV (mCall m_is_integer (mCons (mVar 2) mNil)) (mChn (fCmp fun i j => decide (i ≤ j)) (fCmp fun i j => decide (i < j)) (mC (.int 0)) (mVar 2) (mC (.int 4))))) sNext)
    (sSeq (sIf (mBl (mBin fEq (mVar 1) (mC (.str "next")))) (sRet (mCall m_is_ref (mCons (mVar 2) mNil))) sNext)
    (sRet (mCall m_is_constant (mCons (mVar 0) mNil)))))))))
def m_is_leaf : MF := mFn 3 b_is_leaf
def b_has_form : MS :=
    (sSeq (sIf (mOrT (mNotT (mTr (mIsi "tuple" (mVar 0)))) (mOrT (mNotT (mTr (mVar 0))) (mNotT (mTr (mIsi "str" (mBin fIx (mVar 0) (mC (.int 0)))))))) (sRet (mC (.bl false))) sNext)
    (sSeq (sSet 2 (mBin fIx (mVar 0) (mC (.int 0))))
    (sSeq (sIf (mAndT (mBl (mDin false tab_PLACES (mVar 2))) (mBl (mBin (fIn true) (mVar 1) (mDix tab_PLACES (mVar 2))))) (sRet (mC (.bl false))) sNext)
    (sSeq (sIf (mBl (mDin false tab_OPERATORS (mVar 2))) (sRet (mBin fEq (mCall fLen (mCons (mVar 0) mNil)) (mBin fAdd (mC (.int 1)) (mCall fLen (mCons (mBin fIx (mDix tab_OPERATORS (mVar 2)) (mC (.int 0))) mNil))))) sNext)
    (sSeq (sIf (mBl (mBin fEq (mVar 2) (mC (.str "call")))) (sRet (mAndV (mBin fEq (mCall fLen (mCons (mVar 0) mNil)) (mC (.int 3))) (mAndV (mCall m_is_ref (mCons (mBin fIx (mVar 0) (mC (.int 1))) mNil)) (mCall m_is_tuple (mCons (mBin fIx (mVar 0) (mC (.int 2))) (mCons (mC (.int 0)) (mCons (mC (.int 4)) mNil))))))) sNext)
    (sRet (mCall m_is_leaf (mCons (mVar 0) mNil))))))))
def m_has_form : MF := mFn 3 b_has_form
def b_parts_of : MS :=
    (sSeq (sIf (mBl (mBin fEq (mBin fIx (mVar 0) (mC (.int 0))) (mC (.str "call")))) (sRet (mBin fIx (mVar 0) (mC (.int 2)))) sNext)
    (sSeq (sIf (mBl (mDin false tab_OPERATORS (mBin fIx (mVar 0) (mC (.int 0))))) (sRet (mSl (mVar 0) (mPart (mC (.int 1))) mNoPart)) sNext)
    (sRet (mTup mNil))))
def m_parts_of : MF := mFn 1 b_parts_of
def b_is_expression : MS :=
    (sSeq (sSet 2 (mCel (mCons (mTup (mCons (mVar 0) (mCons (mC (.int 1)) mNil))) mNil)))
    (sSeq (sSet 3 (mC (.int 0)))
    (sSeq (whL (mTr (mVar 2)) (sSeq (sAsg (gT 2 (gCn (gN 4) (gCn (gN 5) gNl))) (mPop (mVar 2)))
    (sSeq (sAug 3 (fun i j => i + j) (mC (.int 1)))
    (sSeq (sIf (mOrT (mBl (mBin (fCmp fun i j => decide (j < i)) (mVar 3) (mC (.int 30)))) (mOrT (mBl (mBin (fCmp fun i j => decide (j < i)) (mVar 5) (mC (.int 8)))) (mNotT (mTr (mCall m_has_form (mCons (mVar 4) (mCons (mVar 1) mNil))))))) (sRet (mC (.bl false))) sNext)
    (sDrop (mExt (mVar 2) (mLc (mSq (mCall m_parts_of (mCons (mVar 4) mNil))) (gN 6) mYes (mTup (mCons (mVar 6) (mCons (mBin fAdd (mVar 5) (mC (.int 1))) mNil))) [6])))))) 33)
    (sRet (mC (.bl true))))))
def m_is_expression : MF := mFn 7 b_is_expression
variable {S : Sto} {Q : D → Sto → Prop} {n h t : Nat} {d : D}
def oper2 (w : Str) : Bool := w == "add" || (w == "join" || (w == "less" || (w == "equal" || (w == "alike" || w == "and"))))
def inFour (pl : Str) : Bool := pl == "rule" || (pl == "check" || (pl == "index" || pl == "trigger"))
def one (f : D → Bool) : List D → Bool
  | [x] => f x
  | _ => false
def parB : D → Bool
  | .int i => decide (0 ≤ i) && decide (i < 4)
  | _ => false
def callB : List D → Bool
  | [x, .tup ys] => refAny x && decide (ys.length ≤ 4)
  | _ => false
/-- the form of an expression that may stand at a place, without its parts -/
def formW (pl w : Str) (r : List D) : Bool :=
  if w = "value" then pl == "domain" && r.isEmpty
  else if w = "column" then inFour pl && one nmAny r
  else if w = "param" then pl == "body" && one parB r
  else if w = "next" then pl == "default" && one refAny r
  else if w = "call" then callB r
  else if w = "not" then r.length == 1
  else if oper2 w = true then r.length == 2
  else conAny (.tup (.str w :: r))
def formAny (pl : Str) : D → Bool
  | .tup (.str w :: r) => formW pl w r
  | _ => false
def kidsW (w : Str) (r : List D) : List D :=
  if w = "call" then (match r with
    | [_, .tup ys] => ys
    | _ => []) else if (w == "not" || oper2 w) = true then r else []
def kids : D → List D
  | .tup (.str w :: r) => kidsW w r
  | _ => []
/-- the words that say something -/
theorem word (w : Str) : w = "value" ∨ w = "column" ∨ w = "param" ∨ w = "next" ∨ w = "call" ∨ w = "not" ∨ w = "add" ∨ w = "join" ∨ w = "less" ∨ w = "equal" ∨ w = "alike" ∨ w = "and" ∨
    ((w == "value") = false ∧ (w == "column") = false ∧ (w == "param") = false ∧ (w == "next") = false ∧ (w == "call") = false ∧ (w == "not") = false ∧ (w == "add") = false ∧ (w == "join") = false ∧ (w == "less") = false ∧ (w == "equal") = false ∧ (w == "alike") = false ∧ (w == "and") = false) := by
  simp only [beq_eq_false_iff_ne, ne_eq]
  by_cases h1 : w = "value"; · simp [h1]
  by_cases h2 : w = "column"; · simp [h2]
  by_cases h3 : w = "param"; · simp [h3]
  by_cases h4 : w = "next"; · simp [h4]
  by_cases h5 : w = "call"; · simp [h5]
  by_cases h6 : w = "not"; · simp [h6]
  by_cases h7 : w = "add"; · simp [h7]
  by_cases h8 : w = "join"; · simp [h8]
  by_cases h9 : w = "less"; · simp [h9]
  by_cases h10 : w = "equal"; · simp [h10]
  by_cases h11 : w = "alike"; · simp [h11]
  by_cases h12 : w = "and"; · simp [h12]
  simp [h1, h2, h3, h4, h5, h6, h7, h8, h9, h10, h11, h12]
def leafW (w : Str) (r : List D) : Bool := if w = "value" then r.isEmpty else if w = "column" then one nmAny r else if w = "param" then one parB r else if w = "next" then one refAny r else conAny (.tup (.str w :: r))
theorem is_leaf {w : Str} {r : List D} (a : Any (.tup (.str w :: r))) : m_is_leaf [.tup (.str w :: r)] S = some (.bl (leafW w r), S) := by
  refine wf_eq ?_
  unfold m_is_leaf b_is_leaf
  generalize hR : leafW w r = R
  unfold leafW at hR
  by_cases h1 : w = "value"
  · subst h1
    walk_at "sw"
    rw [← hR]
    cases r with
    | nil => simp
    | cons x r =>
      simp
      omega
  · have e1 : (w == ("value" : Str)) = false := beq_eq_false_iff_ne.mpr h1
    rw [if_neg h1] at hR
    match r, a, hR with
    | [], _, hR =>
      walk_at "sw"
      simp [e1]
      simpa [one, conAny] using hR.symm
    | [x], a, hR =>
      have ax := a.item x (by simp)
      walk_at "sw"
      simp only [e1, if_false, Bool.false_eq_true, true_and]
      by_cases h2 : w = "column"
      · subst h2
        walk_at "sw"
        rw [wf_is (is_name ax), ← hR]
        simp [one]
      · have e2 : (w == ("column" : Str)) = false := beq_eq_false_iff_ne.mpr h2
        rw [if_neg h2] at hR
        rw [e2, if_neg Bool.false_ne_true]
        by_cases h3 : w = "param"
        · subst h3
          walk_at "sw"
          rw [wf_is (is_integer ax.full), ← hR]
          walk_at "sw"
          cases x <;> try (simp [one, parB, intB]; done)
          rename_i i
          walk_at "sw"
          by_cases h0 : 0 ≤ i <;> simp [one, parB, intB, h0]
        · have e3 : (w == ("param" : Str)) = false := beq_eq_false_iff_ne.mpr h3
          rw [if_neg h3] at hR
          rw [e3, if_neg Bool.false_ne_true]
          by_cases h4 : w = "next"
          · subst h4
            walk_at "sw"
            rw [wf_is (is_ref ax), ← hR]
            simp [one]
          · have e4 : (w == ("next" : Str)) = false := beq_eq_false_iff_ne.mpr h4
            rw [if_neg h4] at hR
            rw [e4, if_neg Bool.false_ne_true, wf_is (is_constant a), ← hR]
            simp
    | x :: y :: z, a, hR =>
      walk_at "sw"
      have : ¬ (((z.length : Nat) : Int) + 1 + 1 + 1 = 2) := by omega
      simp [e1]
      refine ⟨by omega, ?_⟩
      simpa [one, conAny] using hR.symm
theorem lookupP (w : Str) : tab_PLACES.lookup w = if w = "column" then some (.tup [.str "rule", .str "check", .str "index", .str "trigger"]) else if w = "value" then some (.tup [.str "domain"]) else if w = "param" then some (.tup [.str "body"]) else if w = "next" then some (.tup [.str "default"]) else none := by
  rcases word w with rfl | rfl | rfl | rfl | rfl | rfl | rfl | rfl | rfl | rfl | rfl | rfl | ⟨h1, h2, h3, h4, _⟩
  iterate 12 (simp [tab_PLACES, List.lookup, ofs_eq, ofs_beq])
  have k1 : ¬ w = "value" := beq_eq_false_iff_ne.mp h1
  have k2 : ¬ w = "column" := beq_eq_false_iff_ne.mp h2
  have k3 : ¬ w = "param" := beq_eq_false_iff_ne.mp h3
  have k4 : ¬ w = "next" := beq_eq_false_iff_ne.mp h4
  simp [tab_PLACES, List.lookup, h1, h2, h3, h4, k1, k2, k3, k4]
theorem lookupO (w : Str) : (tab_OPERATORS.lookup w).isSome = (w == "not" || oper2 w) := by
  rcases word w with rfl | rfl | rfl | rfl | rfl | rfl | rfl | rfl | rfl | rfl | rfl | rfl | ⟨_, _, _, _, _, h1, h2, h3, h4, h5, h6, h7⟩
  iterate 12 (simp [tab_OPERATORS, List.lookup, ofs_eq, ofs_beq, oper2])
  simp [tab_OPERATORS, List.lookup, oper2, h1, h2, h3, h4, h5, h6, h7]
theorem lookupN (w : Str) (h : (w == "not" || oper2 w) = false) : tab_OPERATORS.lookup w = none := by
  have := lookupO w
  rw [h] at this
  simpa using this
theorem lookup2 (w : Str) (h : oper2 w = true) : ∃ a b c, tab_OPERATORS.lookup w = some (.tup [.tup [a, b], c]) := by
  simp only [oper2, Bool.or_eq_true, beq_iff_eq] at h
  rcases h with rfl | rfl | rfl | rfl | rfl | rfl
  all_goals exact ⟨_, _, _, rfl⟩
theorem notw (h1 : n = n) : True := trivial
theorem len_eq {r : List D} (k : Nat) {m : Int} (h : m = (k : Int) + 1) : (((r.length + 1 : Nat) : Int) == m) = (r.length == k) := by
  subst h
  rw [Bool.eq_iff_iff, beq_iff_eq, beq_iff_eq]
  omega
theorem form_place {pl w : Str} {r : List D} {zs : List Str} {b : Bool} (a : Any (.tup (.str w :: r))) (hp : tab_PLACES.lookup w = some (.tup (zs.map D.str))) (ho : (w == "not" || oper2 w) = false) (hc : (w == "call") = false)
    (hb : (zs.any fun z => pl == z) = b) : m_has_form [.tup (.str w :: r), .str pl] S = some (.bl (b && leafW w r), S) := by
  refine wf_eq ?_
  unfold m_has_form b_has_form
  walk_at "sw"
  have e2 : (!!(D.str w :: r).isEmpty) = false := rfl
  simp only [hp, lookupN w ho, e2, hc, Option.isSome_some, Option.isSome_none, if_true, if_false, Bool.false_eq_true, on_some]
  rw [wb_is (fIn_KN (x := pl) (zs := zs) rfl rfl)]
  walk_at "sw"
  have e3 : (zs.any fun z => isK z (.str pl)) = b := hb
  rw [e3]
  cases b with
  | false => simp
  | true =>
    rw [if_neg (by simp), wf_is (is_leaf a)]
    simp
theorem has_form_w {pl w : Str} {r : List D} (a : Any (.tup (.str w :: r))) : m_has_form [.tup (.str w :: r), .str pl] S = some (.bl (formW pl w r), S) := by
  rcases word w with rfl | rfl | rfl | rfl | rfl | rfl | hw
  · refine (form_place (pl := pl) (zs := ["domain"]) (b := pl == "domain") a (by simp [lookupP, ofs_eq]) (by simp [oper2, ofs_beq]) (by simp [ofs_beq]) (by simp)).trans ?_
    simp [formW, leafW]
  · refine (form_place (pl := pl) (zs := ["rule", "check", "index", "trigger"]) (b := inFour pl) a (by simp [lookupP, ofs_eq]) (by simp [oper2, ofs_beq]) (by simp [ofs_beq]) (by simp [inFour])).trans ?_
    simp [formW, leafW, ofs_eq]
  · refine (form_place (pl := pl) (zs := ["body"]) (b := pl == "body") a (by simp [lookupP, ofs_eq]) (by simp [oper2, ofs_beq]) (by simp [ofs_beq]) (by simp)).trans ?_
    simp [formW, leafW, ofs_eq]
  · refine (form_place (pl := pl) (zs := ["default"]) (b := pl == "default") a (by simp [lookupP, ofs_eq]) (by simp [oper2, ofs_beq]) (by simp [ofs_beq]) (by simp)).trans ?_
    simp [formW, leafW, ofs_eq]
  · refine wf_eq ?_
    unfold m_has_form b_has_form
    walk_at "sw"
    have e1 : formW pl "call" r = callB r := by simp [formW, ofs_eq]
    have e2 : (!!(D.str (Str.ofString "call") :: r).isEmpty) = false := rfl
    have e3 : tab_PLACES.lookup ("call" : Str) = none := by simp [lookupP, ofs_eq]
    have e4 : tab_OPERATORS.lookup ("call" : Str) = none := lookupN _ (by simp [oper2, ofs_beq])
    simp only [e1, e2, e3, e4, Option.isSome_none, if_true, if_false, Bool.false_eq_true]
    match r, a with
    | [], _ => simp [callB]
    | [x], _ => simp [callB]
    | [x, y], a =>
      walk_at "sw"
      rw [wf_is (is_ref (a.item x (by simp)))]
      walk_at "sw"
      rw [wf_is (is_tuple (a.item y (by simp)).full)]
      cases hx : refAny x <;> cases y <;> simp [callB, tupB, hx]
      omega
    | x :: y :: z :: u, _ =>
      have : ¬ (((u.length : Nat) : Int) + 1 + 1 + 1 + 1 = 3) := by omega
      simp [callB, this]
  · refine wf_eq ?_
    unfold m_has_form b_has_form
    walk_at "sw"
    have e1 : formW pl "not" r = (r.length == 1) := by simp [formW, ofs_eq]
    have e2 : (!!(D.str (Str.ofString "not") :: r).isEmpty) = false := rfl
    have e3 : tab_PLACES.lookup ("not" : Str) = none := by simp [lookupP, ofs_eq]
    have e4 : tab_OPERATORS.lookup ("not" : Str) = some (.tup [.tup [.str "truth"], .str "truth"]) := rfl
    simp only [e1, e2, e3, e4, Option.isSome_none, Option.isSome_some, if_true, if_false, Bool.false_eq_true]
    walk_at "sw"
    rw [len_eq 1 (m := 2) rfl]
    simp
  · by_cases ho : oper2 w = true
    · refine wf_eq ?_
      unfold m_has_form b_has_form
      walk_at "sw"
      have hn : tab_PLACES.lookup w = none ∧ formW pl w r = (r.length == 2) := by
        have ho' := ho
        simp only [oper2, Bool.or_eq_true, beq_iff_eq] at ho
        rcases ho with rfl | rfl | rfl | rfl | rfl | rfl
        all_goals exact ⟨by simp [lookupP, ofs_eq], by simp [formW, ofs_eq, ho']⟩
      have e2 : (!!(D.str w :: r).isEmpty) = false := rfl
      obtain ⟨x, y, z, e4⟩ := lookup2 w ho
      simp only [hn.1, hn.2, e2, e4, Option.isSome_none, Option.isSome_some, if_true, if_false, Bool.false_eq_true]
      walk_at "sw"
      rw [len_eq 2 (m := 3) rfl]
      simp
    · have hf : oper2 w = false := by simpa using ho
      rcases hw with rfl | rfl | rfl | rfl | rfl | rfl | ⟨h1, h2, h3, h4, h5, h6, _⟩
      iterate 6 (exact absurd rfl ho)
      have k1 := beq_eq_false_iff_ne.mp h1
      have k2 := beq_eq_false_iff_ne.mp h2
      have k3 := beq_eq_false_iff_ne.mp h3
      have k4 := beq_eq_false_iff_ne.mp h4
      have k5 := beq_eq_false_iff_ne.mp h5
      have k6 := beq_eq_false_iff_ne.mp h6
      refine wf_eq ?_
      unfold m_has_form b_has_form
      walk_at "sw"
      have e1 : formW pl w r = leafW w r := by simp [formW, leafW, k1, k2, k3, k4, k5, k6, hf]
      have e2 : (!!(D.str w :: r).isEmpty) = false := rfl
      have e3 : tab_PLACES.lookup w = none := by simp [lookupP, k1, k2, k3, k4]
      have e4 : tab_OPERATORS.lookup w = none := lookupN _ (by simp [hf, h6])
      simp only [e1, e2, e3, e4, h5, Option.isSome_none, if_true, if_false, Bool.false_eq_true]
      rw [wf_is (is_leaf a)]
      simp
theorem has_form {pl : Str} (a : Any d) : m_has_form [d, .str pl] S = some (.bl (formAny pl d), S) := by
  cases d <;> try (refine wf_eq ?_; unfold m_has_form b_has_form; walk_at "sw"; simp [formAny]; done)
  · rename_i xs
    cases xs with
    | nil =>
      refine wf_eq ?_
      unfold m_has_form b_has_form
      walk_at "sw"
      simp [formAny]
    | cons x r =>
      cases x <;> try (refine wf_eq ?_; unfold m_has_form b_has_form; walk_at "sw"; simp [formAny]; done)
      · exact has_form_w a
      · have := (a.item _ (List.mem_cons_self ..)).full
        simp [D.full] at this
  · have := a.full
    simp [D.full] at this
theorem parts_of {pl w : Str} {r : List D} (h : formW pl w r = true) : m_parts_of [.tup (.str w :: r)] S = some (.tup (kidsW w r), S) := by
  refine wf_eq ?_
  unfold m_parts_of b_parts_of
  walk_at "sw"
  by_cases hc : w = "call"
  · subst hc
    have e1 : callB r = true := by simpa [formW, ofs_eq] using h
    match r, e1 with
    | [x, .tup ys], _ =>
      walk_at "sw"
      simp [kidsW]
  · have e2 : (w == ("call" : Str)) = false := beq_eq_false_iff_ne.mpr hc
    simp only [e2, lookupO, if_false, Bool.false_eq_true]
    cases ho : (w == "not" || oper2 w) <;> simp [kidsW, hc, ho]
/-- sums of what all have -/
def csum : List (Option Nat) → Option Nat
  | [] => some 0
  | some n :: r => (csum r).map (n + ·)
  | none :: _ => none
theorem csum_app : ∀ (a b : List (Option Nat)) , csum (a ++ b) = (csum a).bind fun x => (csum b).map (x + ·)
  | [], b => by
    show csum b = (csum b).map (0 + ·)
    cases csum b <;> simp
  | none :: a, b => rfl
  | some n :: a, b => by
    show (csum (a ++ b)).map (n + ·) = ((csum a).map (n + ·)).bind _
    rw [csum_app a b]
    cases csum a with
    | none => rfl
    | some x =>
      simp only [Option.bind_some, Option.map_some]
      cases csum b with
      | none => rfl
      | some y =>
        simp only [Option.map_some]
        congr 1
        omega
/-- how many expressions, where it is one of at most so many within one another -/
def cnt (pl : Str) : Nat → D → Option Nat
  | 0, _ => none
  | k + 1, d => if formAny pl d = true then (csum ((kids d).map (cnt pl k))).map (· + 1) else none
def exprAny (pl : Str) (d : D) : Bool := match cnt pl 8 d with
  | some n => decide (n ≤ 30)
  | none => false
def stk (st : List (D × Nat)) : List D := st.map fun p => .tup [p.1, .int (p.2 : Nat)]
def tot (pl : Str) (st : List (D × Nat)) : Option Nat := csum (st.map fun p => cnt pl (9 - p.2) p.1)
theorem cell_last {S0 : Sto} {c : List D} : cellAt (.loc S0.length) (S0 ++ [some c]) = some (S0.length, c) := cellAt_of (by rw [List.getElem?_append_right (Nat.le_refl _), Nat.sub_self]; rfl)
theorem set_last {S0 : Sto} {x y : Option (List D)} : (S0 ++ [x]).set S0.length y = S0 ++ [y] := by
  rw [List.set_append_right _ _ (Nat.le_refl _), Nat.sub_self]
  rfl
theorem tr_last {S0 : Sto} {c : List D} : trD (.loc S0.length) (S0 ++ [some c]) = some (!c.isEmpty) := by
  unfold trD
  simp only [List.getElem?_append_right (Nat.le_refl S0.length), Nat.sub_self, List.getElem?_cons_zero]
theorem kids_len {pl w : Str} {r : List D} (h : formW pl w r = true) : (kidsW w r).length ≤ 4 := by
  unfold kidsW
  by_cases hc : w = "call"
  · subst hc
    have e1 : callB r = true := by simpa [formW, ofs_eq] using h
    rw [if_pos rfl]
    match r, e1 with
    | [x, .tup ys], e1 =>
      simp only [callB, Bool.and_eq_true, decide_eq_true_eq] at e1
      exact e1.2
  · rw [if_neg hc]
    split
    · rename_i ho
      rw [Bool.or_eq_true] at ho
      rcases ho with ho | ho
      · rw [beq_iff_eq] at ho
        subst ho
        have : (r.length == 1) = true := by simpa [formW, ofs_eq] using h
        rw [beq_iff_eq] at this
        omega
      · have ho' := ho
        simp only [oper2, Bool.or_eq_true, beq_iff_eq] at ho
        have : (r.length == 2) = true := by
          rcases ho with rfl | rfl | rfl | rfl | rfl | rfl <;> simpa [formW, ofs_eq, ho'] using h
        rw [beq_iff_eq] at this
        omega
    · exact Nat.zero_le _
theorem kids_any {w : Str} {r : List D} (a : Any (.tup (.str w :: r))) : ∀ x ∈ kidsW w r, Any x := by
  intro x hx
  unfold kidsW at hx
  split at hx
  · split at hx
    · exact (a.item _ (by simp)).item x hx
    · cases hx
  · split at hx
    · exact a.item x (List.mem_cons_of_mem _ hx)
    · cases hx
theorem cnt_pos {pl : Str} {k n : Nat} (h : cnt pl k d = some n) : 1 ≤ n ∧ formAny pl d = true ∧ 1 ≤ k := by
  cases k with
  | zero => cases h
  | succ k =>
    unfold cnt at h
    split at h
    · rename_i hf
      obtain ⟨x, _, rfl⟩ := map_some h
      exact ⟨by omega, hf, by omega⟩
    · cases h
theorem tot_snoc {pl : Str} {st : List (D × Nat)} {p : D × Nat} : tot pl (st ++ [p]) = (tot pl st).bind fun x => (cnt pl (9 - p.2) p.1).map (x + ·) := by
  unfold tot
  rw [List.map_append, csum_app]
  congr 1
  funext x
  show (csum [cnt pl (9 - p.2) p.1]).map (x + ·) = _
  cases cnt pl (9 - p.2) p.1 with
  | none => rfl
  | some n => rfl
abbrev loopT : MT := mTr (mVar 2)
abbrev loopB : MS := (sSeq (sAsg (gT 2 (gCn (gN 4) (gCn (gN 5) gNl))) (mPop (mVar 2)))
    (sSeq (sAug 3 (fun i j => i + j) (mC (.int 1)))
    (sSeq (sIf (mOrT (mBl (mBin (fCmp fun i j => decide (j < i)) (mVar 3) (mC (.int 30)))) (mOrT (mBl (mBin (fCmp fun i j => decide (j < i)) (mVar 5) (mC (.int 8)))) (mNotT (mTr (mCall m_has_form (mCons (mVar 4) (mCons (mVar 1) mNil))))))) (sRet (mC (.bl false))) sNext)
    (sDrop (mExt (mVar 2) (mLc (mSq (mCall m_parts_of (mCons (mVar 4) mNil))) (gN 6) mYes (mTup (mCons (mVar 6) (mCons (mBin fAdd (mVar 5) (mC (.int 1))) mNil))) [6]))))))
theorem loop {pl : Str} {S0 : Sto} {QS : Fl → Sto → Prop} {d0 : D} : ∀ (fuel m : Nat) (st : List (D × Nat)) (o4 o5 o6 : Option D), m ≤ 30 → 32 ≤ fuel + m → (∀ p ∈ st, Any p.1 ∧ 1 ≤ p.2) → st.length ≤ 5 + 4 * m →
    ((∃ n, tot pl st = some n ∧ m + n ≤ 30) → ∀ ρ X, QS (.nx ρ) (S0 ++ [some X])) → ((¬ ∃ n, tot pl st = some n ∧ m + n ≤ 30) → ∀ X, QS (.rt (.bl false)) (S0 ++ [some X])) →
    WS (whL loopT loopB fuel) [some d0, some (.str pl), some (.loc S0.length), some (.int (m : Nat)), o4, o5, o6] (S0 ++ [some (stk st)]) QS := by
  intro fuel
  induction fuel with
  | zero => intro m st o4 o5 o6 h1 h2; omega
  | succ fuel ih =>
    intro m st o4 o5 o6 h1 h2 hs hl q1 q0
    rw [ww_succ]
    walk_at "sw"
    rw [tr_last]
    walk_at "sw"
    rcases List.eq_nil_or_concat st with rfl | ⟨st', p, rfl⟩
    · exact q1 ⟨0, rfl, by omega⟩ _ _
    · rw [List.concat_eq_append] at *
      obtain ⟨e, dp⟩ := p
      have he := hs (e, dp) (by simp)
      have e1 : (!(stk (st' ++ [(e, dp)])).isEmpty) = true := by simp [stk]
      rw [if_pos e1, cell_last]
      walk_at "sw"
      have e2 : (stk (st' ++ [(e, dp)]))[(stk (st' ++ [(e, dp)])).length - 1]? = some (.tup [e, .int (dp : Nat)]) := by simp [stk]
      have e3 : (stk (st' ++ [(e, dp)])).dropLast = stk st' := by simp [stk]
      rw [e2, e3]
      walk_at "sw"
      refine ⟨trivial, (m : Int), rfl, ?_⟩
      rw [set_last]
      by_cases hm : m = 30
      · rw [if_pos (by simp [hm])]
        refine q0 (fun ⟨n, hn, hb⟩ => ?_) _
        rw [tot_snoc] at hn
        obtain ⟨x, _, hn⟩ := bindS hn
        obtain ⟨y, hy, rfl⟩ := map_some hn
        have := (cnt_pos hy).1
        omega
      · rw [if_neg (by simp; omega)]
        have m1 : m + 1 ≤ 30 := by omega
        have m2 : 32 ≤ fuel + (m + 1) := by omega
        by_cases hd : 9 ≤ dp
        · rw [if_pos (by simp; omega)]
          refine q0 (fun ⟨n, hn, hb⟩ => ?_) _
          rw [tot_snoc] at hn
          obtain ⟨x, _, hn⟩ := bindS hn
          obtain ⟨y, hy, rfl⟩ := map_some hn
          have := (cnt_pos hy).2.2
          simp only at this
          omega
        · rw [if_neg (by simp; omega), wf_is (has_form he.1)]
          walk_at "sw"
          by_cases hf : formAny pl e = true
          · rw [if_neg (by simp [hf])]
            rw [cell_last]
            obtain ⟨w, r, rfl⟩ : ∃ w r, e = .tup (.str w :: r) := by
              cases e <;> try (cases hf; done)
              rename_i xs
              cases xs with
              | nil => cases hf
              | cons x r => cases x <;> first | exact ⟨_, _, rfl⟩ | (cases hf; done)
            have hf' : formW pl w r = true := hf
            refine ⟨rfl, ?_⟩
            rw [wf_is (parts_of hf')]
            walk_at "sw"
            have kl := kids_len hf'
            refine ⟨by omega, ?_⟩
            refine wl_pure (f := fun d => .tup [d, .int ((dp + 1 : Nat) : Int)]) (fun d _ => ?_) ?_
            · walk_at "sw"
              exact ⟨by decide, rfl, trivial⟩
            · rw [cell_last, on_some]
              refine ⟨_, rfl, ?_, ?_⟩
              · simp only [stk, List.length_map]
                rw [List.length_append] at hl
                omega
              · rw [set_last]
                have e4 : stk st' ++ (kidsW w r).map (fun d => .tup [d, .int ((dp + 1 : Nat) : Int)]) = stk (st' ++ (kidsW w r).map fun d => (d, dp + 1)) := by simp [stk, Function.comp_def]
                have e5 : tot pl (st' ++ (kidsW w r).map fun d => (d, dp + 1)) = (tot pl st').bind fun x => (csum ((kidsW w r).map (cnt pl (9 - (dp + 1))))).map (x + ·) := by
                  unfold tot
                  rw [List.map_append, csum_app]
                  simp [Function.comp_def]
                have e6 : tot pl (st' ++ [(D.tup (D.str w :: r), dp)]) = (tot pl st').bind fun x => (csum ((kidsW w r).map (cnt pl (9 - (dp + 1))))).map fun y => x + (y + 1) := by
                  rw [tot_snoc]
                  congr 1
                  funext x
                  have : 9 - dp = 9 - (dp + 1) + 1 := by omega
                  simp only [this]
                  unfold cnt
                  rw [if_pos hf, Option.map_map]
                  rfl
                have e7 : (∃ n, tot pl (st' ++ (kidsW w r).map fun d => (d, dp + 1)) = some n ∧ m + 1 + n ≤ 30) ↔ ∃ n, tot pl (st' ++ [(D.tup (D.str w :: r), dp)]) = some n ∧ m + n ≤ 30 := by
                  rw [e5, e6]
                  cases tot pl st' with
                  | none => simp
                  | some x =>
                    simp only [Option.bind_some]
                    cases csum ((kidsW w r).map (cnt pl (9 - (dp + 1)))) with
                    | none => simp
                    | some y =>
                      simp only [Option.map_some, Option.some.injEq, exists_eq_left']
                      omega
                rw [e4]
                refine ih (m + 1) _ _ _ _ m1 m2 (fun p hp => ?_) ?_ (fun h => q1 (e7.mp h)) (fun h => q0 fun z => h (e7.mpr z))
                · rcases List.mem_append.mp hp with hp | hp
                  · exact hs p (List.mem_append_left _ hp)
                  · obtain ⟨x, hx, rfl⟩ := List.mem_map.mp hp
                    exact ⟨kids_any he.1 x hx, by show 1 ≤ dp + 1; omega⟩
                · rw [List.length_append, List.length_map]
                  rw [List.length_append] at hl
                  simp only [List.length_singleton] at hl
                  omega
          · rw [if_pos (by simp [hf])]
            refine q0 (fun ⟨n, hn, hb⟩ => ?_) _
            rw [tot_snoc] at hn
            obtain ⟨x, _, hn⟩ := bindS hn
            obtain ⟨y, hy, rfl⟩ := map_some hn
            exact hf (cnt_pos hy).2.1
theorem is_expression {pl : Str} {S : Sto} (a : Any d) : ∃ X, m_is_expression [d, .str pl] S = some (.bl (exprAny pl d), S ++ [some X]) := by
  have key : WF m_is_expression [d, .str pl] S fun v S' => v = .bl (exprAny pl d) ∧ ∃ X, S' = S ++ [some X] := by
    unfold m_is_expression b_is_expression
    walk_at "sw"
    refine ⟨by decide, by decide, ?_⟩
    have e0 : exprAny pl d = true ↔ ∃ n, tot pl [(d, 1)] = some n ∧ 0 + n ≤ 30 := by
      have : tot pl [(d, 1)] = cnt pl 8 d := by
        show csum [cnt pl 8 d] = _
        cases cnt pl 8 d <;> rfl
      rw [this]
      unfold exprAny
      cases cnt pl 8 d <;> simp
    refine loop (QS := _) 33 0 [(d, 1)] none none none (by omega) (by omega) (fun p hp => ?_) (by simp) (fun h ρ X => ?_) fun h X => ?_
    · rw [List.mem_singleton] at hp
      subst hp
      exact ⟨a, Nat.le_refl _⟩
    · rw [nx_nx, ws_ret, we_c, rt_rt, e0.mpr h]
      exact ⟨rfl, X, rfl⟩
    · rw [nx_rt, rt_rt]
      have : exprAny pl d = false := by
        rw [Bool.eq_false_iff]
        exact fun z => h (e0.mp z)
      rw [this]
      exact ⟨rfl, X, rfl⟩
  obtain ⟨v, S', e, rfl, X, rfl⟩ := key
  exact ⟨X, e⟩
end SX
/-! SXd -/
/-! SXd: the laws' own looks at words. -/
namespace SX
open PySem PySem.Spec PyProof.Rows L2 DL SH SW
local macro_rules | `(tactic| walk_at "sw") => `(tactic| simp only [we_var, we_c, we_bin, we_call, wa_nil, wa_cons, we_tup, we_lst, we_cel, we_dic, we_neg, wo_np, wo_pt, we_sl, we_isi, we_st0, we_din, we_dix, we_andV, we_orV, we_notV, we_if, we_chn, we_get2, wt_bl, wt_tr, wt_not, wt_and, wt_or, wt_yes, ws_next, ws_seq, ws_ret, ws_drop, ws_set, ws_if, ws_brk, ws_cnt, ws_asg, ws_par, ws_aug, wf_fn, wa_sq, wa_rg, wr_nil, wr_cons, we_app, we_ext, we_pop, on_some, intOf_int, strOf_str, blOf_bl, nx_nx, nx_rt, nx_bk, nx_ct, rt_rt, rt_nx, tn_nx, tn_ct, tn_bk, tn_rt, at_zero, at_succ, wipe_nil, wipe_cons, on_gN, on_gT, on_gNl, on_gCn, wb_addI, wb_addS, wb_addL, wb_addT, wb_subI, wb_mulI, wb_mulL, wb_mulS, wb_mulT, wb_mod, wb_div, wb_pow, wb_cmp, wb_eqI, wb_eqS, wb_eqB, wb_neI, wb_neS, wb_isN, wb_ixT0, wb_ixT1, wb_ixT2, wb_ixL0, wb_ixL1, wb_ixL2, wf_lenT, wf_lenL, wf_lenS, wf_intI, wf_intB, wf_tupL, wf_tupT, wf_lisT, wf_lisL, wf_min, slT, slL, slS, on_trB, on_trT, on_trL, itT, itL, itS, cut1, List.set_cons_zero, List.set_cons_succ, List.map_cons, List.map_nil, List.length_cons, List.length_nil, Nat.reduceAdd, Nat.reduceSub, List.replicate_succ, List.replicate_zero, List.cons_append, List.nil_append, List.append_nil, if_true, if_false, Bool.false_eq_true, Bool.not_true, Bool.not_false, List.getElem?_cons_zero, List.getElem?_cons_succ, List.drop_succ_cons, List.drop_zero, isOf_non, isOf_bl, isOf_int, isOf_str, isOf_tup, isOf_lst, isOf_rol, isOf_dct, isA, String.reduceBEq, Bool.or_self, Bool.false_or, Bool.or_false, Bool.and_false, Bool.false_and, Bool.and_true, Bool.true_and, Bool.true_or, Bool.or_true, Bool.and_self, ofs_beq, cast0, cast1, cast2, cast3, cast4, cast5, beq_self_eq_true, Int.reduceLE, Int.reduceLT, Int.reduceAdd, Int.reduceSub, Int.reduceNeg, decide_true, decide_false, we_lc, we_lcC, ws_for, abs10, getO_str, Nat.reduceLT])
def b_law_alike : MS :=
    (sRet (mAndV (mBin fEq (mVar 0) (mVar 1)) (mBin fEq (mCall fRepr (mCons (mVar 0) mNil)) (mCall fRepr (mCons (mVar 1) mNil)))))
def m_law_alike : MF := mFn 2 b_law_alike
def b_law_is_name : MS :=
    (sSeq (sIf (mOrT (mNotT (mTr (mIsi "str" (mVar 0)))) (mNotT (mBl (mChn (fCmp fun i j => decide (i ≤ j)) (fCmp fun i j => decide (i ≤ j)) (mC (.int 1)) (mCall fLen (mCons (mVar 0) mNil)) (mC (.int 8)))))) (sRet (mC (.bl false))) sNext)
    (sRet (mCall fAll (mCons (mLc (mSq (mVar 0)) (gN 1) mYes (mBin (fIn false) (mVar 1) (mC (.str "abcdefghijklmnopqrstuvwxyz"))) [1]) mNil))))
def m_law_is_name : MF := mFn 2 b_law_is_name
def b_law_is_ref : MS :=
    (sSeq (sIf (mTr (mIsi "tuple" (mVar 0))) (sRet (mAndV (mBin fEq (mCall fLen (mCons (mVar 0) mNil)) (mC (.int 2))) (mAndV (mCall m_law_is_name (mCons (mBin fIx (mVar 0) (mC (.int 0))) mNil)) (mCall m_law_is_name (mCons (mBin fIx (mVar 0) (mC (.int 1))) mNil))))) sNext)
    (sRet (mCall m_law_is_name (mCons (mVar 0) mNil))))
def m_law_is_ref : MF := mFn 1 b_law_is_ref
variable {S : Sto} {Q : D → Sto → Prop} {n h t : Nat} {d : D}
theorem abc_let (c : Nat) : decide (c ∈ abc.cps.toList) = LetB c := by
  rw [abc_list, Bool.eq_iff_iff, decide_eq_true_eq, List.mem_map]
  unfold LetB
  rw [Bool.and_eq_true, decide_eq_true_eq, decide_eq_true_eq]
  constructor
  · rintro ⟨i, hi, rfl⟩
    have := List.mem_range.mp hi
    omega
  · intro h
    exact ⟨c - 97, List.mem_range.mpr (by omega), by omega⟩
theorem sign_in (c : Nat) : fIn false (.str ⟨#[c]⟩) (.str (Str.ofString "abcdefghijklmnopqrstuvwxyz")) S = some (.bl (LetB c), S) := by
  show some (D.bl (!(Builtin.Str.occurrences abc ⟨#[c]⟩ 0 abc.length 1).isEmpty), S) = _
  rw [PySem.StrLaws.found_one, abc_let]
theorem bls_map {α : Type} {g : α → Bool} : ∀ l : List α, blsOf (l.map fun c => D.bl (g c)) = some (l.map g)
  | [] => rfl
  | c :: l => by
    show (blsOf (l.map fun c => D.bl (g c))).map _ = _
    rw [bls_map l]
    rfl
theorem fAll_map {α : Type} {g : α → Bool} {l : List α} : fAll [.lst (l.map fun c => D.bl (g c))] S = some (.bl (l.all g), S) := by
  show (blsOf _).map _ = _
  rw [bls_map, Option.map_some, List.all_map]
  rfl
def sgn : D → Bool
  | .str x => x.cps.toList.all LetB
  | _ => false
theorem signs {s : Str} {ρ : Env'} {i : Nat} {QL : List D → Sto → Prop} (hi : at? (ρ.set i (some (.str s))) i = some (.str s)) (hg : ∀ e, at? (ρ.set i (some e)) i = some e)
    (k : QL (s.cps.toList.map fun c => D.bl (LetB c)) S) : WL (gN i) mYes (mBin (fIn false) (mVar i) (mC (.str "abcdefghijklmnopqrstuvwxyz"))) ρ (s.cps.toList.map fun c => D.str ⟨#[c]⟩) S QL := by
  refine wl_pure (f := fun d => .bl (sgn d)) (fun d hd => ?_) ?_
  · obtain ⟨c, _, rfl⟩ := List.mem_map.mp hd
    walk_at "sw"
    rw [hg, on_some, wb_is (sign_in c)]
    simp [sgn]
  · rw [List.map_map]
    have : (fun d => D.bl (sgn d)) ∘ (fun c : Nat => D.str ⟨#[c]⟩) = fun c => D.bl (LetB c) := by
      funext c
      simp [sgn]
    rw [this]
    exact k
theorem law_is_name (a : Any d) : m_law_is_name [d] S = some (.bl (nmAny d), S) := by
  refine wf_eq ?_
  unfold m_law_is_name b_law_is_name
  cases d <;> try (walk_at "sw"; simp [nmAny]; done)
  · rename_i s
    have hl := a.slen
    walk_at "sw"
    refine ⟨hl, ?_⟩
    have hz : (s.cps.toList.map fun c => D.str ⟨#[c]⟩).length ≤ 1000000 := by
      rw [List.length_map, Array.length_toList]
      exact hl
    by_cases h1 : 1 ≤ (s.length : Int)
    · rw [if_pos (by simpa using h1)]
      by_cases h8 : (s.length : Int) ≤ 8
      · rw [if_neg (by simpa using h8)]
        refine ⟨hl, hz, signs rfl (fun e => rfl) ?_⟩
        rw [wf_is fAll_map]
        have : nmB s = s.cps.toList.all LetB := by
          unfold nmB
          rw [decide_eq_true (p := 1 ≤ s.length) (by omega), decide_eq_true (p := s.length ≤ 8) (by omega), Bool.true_and, Bool.true_and]
        simp [nmAny, this]
      · rw [if_pos (by simpa using h8)]
        have : nmB s = false := by
          unfold nmB
          rw [decide_eq_false (p := s.length ≤ 8) (by omega), Bool.and_false, Bool.false_and]
        simp [nmAny, this]
    · rw [if_neg (by simpa using h1)]
      have : nmB s = false := by
        unfold nmB
        rw [decide_eq_false (p := 1 ≤ s.length) (by omega), Bool.false_and, Bool.false_and]
      simp [nmAny, this]
  · have := a.full
    simp [D.full] at this
theorem law_is_ref (a : Any d) : m_law_is_ref [d] S = some (.bl (refAny d), S) := by
  refine wf_eq ?_
  unfold m_law_is_ref b_law_is_ref
  cases d <;> try (walk_at "sw"; rw [wf_is (law_is_name a)]; simp [refAny]; done)
  · rename_i xs
    walk_at "sw"
    match xs, a with
    | [], _ => simp [refAny]
    | [x], _ => simp [refAny]
    | [x, y], a =>
      walk_at "sw"
      rw [wf_is (law_is_name (a.item x (by simp)))]
      walk_at "sw"
      rw [wf_is (law_is_name (a.item y (by simp)))]
      cases hx : nmAny x <;> cases hy : nmAny y <;> simp [refAny, hx, hy]
    | x :: y :: z :: r, _ =>
      have : ¬ (((r.length : Nat) : Int) + 1 + 1 + 1 = 2) := by omega
      simp [refAny, this]
  · have := a.full
    simp [D.full] at this
/-- two alike -/
theorem fEq_bl {x y : Bool} : fEq (.bl x) (.bl y) S = some (.bl (x == y), S) := rfl
theorem shb_bl {x : Bool} : (D.bl x).shb = true := by cases x <;> decide +kernel
theorem alike_bl {x : Bool} : m_law_alike [.bl x, .bl x] S = some (.bl true, S) := by
  refine wf_eq ?_
  unfold m_law_alike b_law_alike
  walk_at "sw"
  rw [wf_is (fRepr_of shb_bl), wf_is (fRepr_of shb_bl)]
  walk_at "sw"
  exact ⟨trivial, trivial⟩
end SX
/-! SXe -/
/-! SXe: drawn things and their sizes. -/
namespace SX
open PySem PySem.Spec PyProof.Rows L2 DL SH SW
local macro_rules | `(tactic| walk_at "sw") => `(tactic| simp only [we_var, we_c, we_bin, we_call, wa_nil, wa_cons, we_tup, we_lst, we_cel, we_dic, we_neg, wo_np, wo_pt, we_sl, we_isi, we_st0, we_din, we_dix, we_andV, we_orV, we_notV, we_if, we_chn, we_get2, wt_bl, wt_tr, wt_not, wt_and, wt_or, wt_yes, ws_next, ws_seq, ws_ret, ws_drop, ws_set, ws_if, ws_brk, ws_cnt, ws_asg, ws_par, ws_aug, wf_fn, wa_sq, wa_rg, wr_nil, wr_cons, we_app, we_ext, we_pop, on_some, intOf_int, strOf_str, blOf_bl, nx_nx, nx_rt, nx_bk, nx_ct, rt_rt, rt_nx, tn_nx, tn_ct, tn_bk, tn_rt, at_zero, at_succ, wipe_nil, wipe_cons, on_gN, on_gT, on_gNl, on_gCn, wb_addI, wb_addS, wb_addL, wb_addT, wb_subI, wb_mulI, wb_mulL, wb_mulS, wb_mulT, wb_mod, wb_div, wb_pow, wb_cmp, wb_eqI, wb_eqS, wb_eqB, wb_neI, wb_neS, wb_isN, wb_ixT0, wb_ixT1, wb_ixT2, wb_ixL0, wb_ixL1, wb_ixL2, wf_lenT, wf_lenL, wf_lenS, wf_intI, wf_intB, wf_tupL, wf_tupT, wf_lisT, wf_lisL, wf_min, slT, slL, slS, on_trB, on_trT, on_trL, itT, itL, itS, cut1, List.set_cons_zero, List.set_cons_succ, List.map_cons, List.map_nil, List.length_cons, List.length_nil, Nat.reduceAdd, Nat.reduceSub, List.replicate_succ, List.replicate_zero, List.cons_append, List.nil_append, List.append_nil, if_true, if_false, Bool.false_eq_true, Bool.not_true, Bool.not_false, List.getElem?_cons_zero, List.getElem?_cons_succ, List.drop_succ_cons, List.drop_zero, isOf_non, isOf_bl, isOf_int, isOf_str, isOf_tup, isOf_lst, isOf_rol, isOf_dct, isA, String.reduceBEq, Bool.or_self, Bool.false_or, Bool.or_false, Bool.and_false, Bool.false_and, Bool.and_true, Bool.true_and, Bool.true_or, Bool.or_true, Bool.and_self, ofs_beq, cast0, cast1, cast2, cast3, cast4, cast5, beq_self_eq_true, Int.reduceLE, Int.reduceLT, Int.reduceAdd, Int.reduceSub, Int.reduceNeg, decide_true, decide_false, we_lc, we_lcC, ws_for, abs10, getO_str, Nat.reduceLT])
variable {S : Sto} {Q : D → Sto → Prop} {n m h t : Nat} {d : D} {xs ys : List D}
/-- a bag lies in front -/
def Dz (S : Sto) : Prop := ∃ T, Dr T S
theorem Dz.app {X : Sto} (z : Dz S) : Dz (S ++ X) := by
  obtain ⟨T, B, ok, rfl⟩ := z
  exact ⟨T ++ X, B, ok, rfl⟩
theorem wz_take {many : Int} (z : Dz S) (h1 : 1 ≤ many) (h2 : many ≤ 1000000) (k : ∀ v S', 0 ≤ v → v < many → Dz S' → Q (.int v) S') : WF m_take [.loc 0, .int many] S Q := by
  obtain ⟨T, z⟩ := z
  exact wf_take z h1 h2 fun v S' a b c => k v S' a b ⟨T, c⟩
theorem wz_names {k : Nat} (z : Dz S) (hk : k ≤ 24) (q : ∀ ds S', Dz S' → ds.length = k → (∀ d ∈ ds, NmD d) → Q (.lst ds) S') : WF m_names [.loc 0, .int k] S Q := by
  obtain ⟨T, z⟩ := z
  obtain ⟨ds, S', e, d, l, p⟩ := names z hk
  exact ⟨_, _, e, q ds S' ⟨T, d⟩ l p⟩
/-- a drawn item of a list -/
theorem wb_pick {v : Int} (h0 : 0 ≤ v) (h1 : v < xs.length) (k : ∀ d ∈ xs, Q d S) : WB fIx (.lst xs) (.int v) S Q := wb_ix h0 h1 k
/-! sizes -/
theorem fit_tup {N H T : Nat} (f : Fits n H T xs) (e : n + 1 ≤ N) : Fit N (H + 1) (T + 1) (.tup xs) := f.tup.mono e (Nat.le_refl _) (Nat.le_refl _)
theorem fit_lst {N H T : Nat} (f : Fits n H T xs) (e : n + 1 ≤ N) : Fit N (H + 1) T (.lst xs) := f.lst.mono e (Nat.le_refl _) (Nat.le_refl _)
theorem fix_nm (a : NmD d) : Fit 9 h t d := fit_nm a (Nat.le_refl _)
theorem fix_lit (w : Nat) (a : plainB d = true) (b : d.py.bulk + 1 = w) (c : d.py.depth ≤ h) (e : tupDep d ≤ t) : Fit w h t d := ⟨a, Nat.le_of_eq b, c, e⟩
theorem fix_int {i : Int} (a : i.natAbs < 1000000000000) : Fit 42 h t (.int i) := fit_int a (Nat.le_refl _)
theorem fix_int1 {i : Int} (a : i.natAbs < 1000000000000) : Fit 1 h t (.int i) := fit_int1 a (Nat.le_refl _)
theorem fix_up {n' h' t' : Nat} (f : Fit n h' t' d) (a : h' ≤ h) (b : t' ≤ t) : Fit n h t d := f.mono (Nat.le_refl _) a b
theorem fits_app (f : Fits n h t xs) (g : Fits m h t ys) : Fits (n + m) h t (xs ++ ys) := f.app g
theorem wt_app : ∀ {xs ys : List D}, PyData.bulkAll (D.pys (xs ++ ys)) = PyData.bulkAll (D.pys xs) + PyData.bulkAll (D.pys ys)
  | [], ys => by simp [D.pys, PyData.bulkAll]
  | x :: xs, ys => by
    simp only [List.cons_append, D.pys, PyData.bulkAll]
    rw [wt_app]
    omega
theorem dp_app : ∀ {xs ys : List D}, PyData.depthAll (D.pys (xs ++ ys)) = max (PyData.depthAll (D.pys xs)) (PyData.depthAll (D.pys ys))
  | [], ys => by simp [D.pys, PyData.depthAll]
  | x :: xs, ys => by
    simp only [List.cons_append, D.pys, PyData.depthAll]
    rw [dp_app]
    omega
theorem td_app : ∀ {xs ys : List D}, tupDeps (xs ++ ys) = max (tupDeps xs) (tupDeps ys)
  | [], ys => by simp [tupDeps]
  | x :: xs, ys => by
    simp only [List.cons_append, tupDeps]
    rw [td_app]
    omega
theorem pl_app : ∀ {xs ys : List D}, plainsB (xs ++ ys) = (plainsB xs && plainsB ys)
  | [], ys => by simp [plainsB]
  | x :: xs, ys => by
    simp only [List.cons_append, plainsB]
    rw [pl_app, Bool.and_assoc]
/-- an item taken out for another one -/
theorem fits_put {j : Nat} {x y : D} {b h' t' : Nat} (f : Fits n h t xs) (hj : xs[j]? = some x) (g : ∀ nx, Fit nx h t x → Fit (nx + b) h' t' y) (hh : h ≤ h') (ht : t ≤ t') : Fits (n + b) h' t' (xs.take j ++ [y] ++ xs.drop (j + 1)) := by
  obtain ⟨hl, rfl⟩ := List.getElem?_eq_some_iff.mp hj
  have e : xs = xs.take j ++ (xs[j] :: xs.drop (j + 1)) := by
    rw [← List.drop_eq_getElem_cons hl, List.take_append_drop]
  obtain ⟨a, b', c, k⟩ := f
  rw [e] at a b' c k
  rw [pl_app, Bool.and_eq_true] at a
  rw [wt_app] at b'
  rw [dp_app] at c
  rw [td_app] at k
  simp only [plainsB, Bool.and_eq_true] at a
  simp only [D.pys, PyData.bulkAll] at b'
  simp only [D.pys, PyData.depthAll] at c
  simp only [tupDeps] at k
  have fx : Fit ((xs[j]).py.bulk + 1) h t xs[j] := ⟨a.2.1, Nat.le_refl _, by omega, by omega⟩
  have gy := g _ fx
  obtain ⟨y1, y2, y3, y4⟩ := gy
  rw [List.append_assoc]
  refine ⟨?_, ?_, ?_, ?_⟩
  · rw [pl_app, Bool.and_eq_true]
    refine ⟨a.1, ?_⟩
    show plainsB (y :: xs.drop (j + 1)) = true
    simp only [plainsB, Bool.and_eq_true]
    exact ⟨y1, a.2.2⟩
  · rw [wt_app]
    show _ + PyData.bulkAll (D.pys (y :: xs.drop (j + 1))) ≤ _
    simp only [D.pys, PyData.bulkAll]
    omega
  · rw [dp_app]
    show max _ (PyData.depthAll (D.pys (y :: xs.drop (j + 1)))) ≤ _
    simp only [D.pys, PyData.depthAll]
    omega
  · rw [td_app]
    show max _ (tupDeps (y :: xs.drop (j + 1))) ≤ _
    simp only [tupDeps]
    omega
theorem fits_rep (f : Fits n h t xs) : ∀ k : Nat, Fits (k * n) h t (List.replicate k xs).flatten
  | 0 => by
    simp only [List.replicate_zero, List.flatten_nil, Nat.zero_mul]
    exact Fits.nil
  | k + 1 => by
    rw [List.replicate_succ, List.flatten_cons]
    exact (fits_app f (fits_rep f k)).mono (by rw [Nat.succ_mul]; omega) (Nat.le_refl _) (Nat.le_refl _)
end SX
/-! SXf -/
/-! SXf: lists that change, a tuple turned about. -/
namespace SX
open PySem PySem.Spec PyProof.Rows L2 DL SH SW
local macro_rules | `(tactic| walk_at "sw") => `(tactic| simp only [we_var, we_c, we_bin, we_call, wa_nil, wa_cons, we_tup, we_lst, we_cel, we_dic, we_neg, wo_np, wo_pt, we_sl, we_isi, we_st0, we_din, we_dix, we_andV, we_orV, we_notV, we_if, we_chn, we_get2, wt_bl, wt_tr, wt_not, wt_and, wt_or, wt_yes, ws_next, ws_seq, ws_ret, ws_drop, ws_set, ws_if, ws_brk, ws_cnt, ws_asg, ws_par, ws_aug, wf_fn, wa_sq, wa_rg, wr_nil, wr_cons, we_app, we_ext, we_pop, on_some, intOf_int, strOf_str, blOf_bl, nx_nx, nx_rt, nx_bk, nx_ct, rt_rt, rt_nx, tn_nx, tn_ct, tn_bk, tn_rt, at_zero, at_succ, wipe_nil, wipe_cons, on_gN, on_gT, on_gNl, on_gCn, wb_addI, wb_addS, wb_addL, wb_addT, wb_subI, wb_mulI, wb_mulL, wb_mulS, wb_mulT, wb_mod, wb_div, wb_pow, wb_cmp, wb_eqI, wb_eqS, wb_eqB, wb_neI, wb_neS, wb_isN, wb_ixT0, wb_ixT1, wb_ixT2, wb_ixL0, wb_ixL1, wb_ixL2, wf_lenT, wf_lenL, wf_lenS, wf_intI, wf_intB, wf_tupL, wf_tupT, wf_lisT, wf_lisL, wf_min, slT, slL, slS, on_trB, on_trT, on_trL, itT, itL, itS, cut1, List.set_cons_zero, List.set_cons_succ, List.map_cons, List.map_nil, List.length_cons, List.length_nil, Nat.reduceAdd, Nat.reduceSub, List.replicate_succ, List.replicate_zero, List.cons_append, List.nil_append, List.append_nil, if_true, if_false, Bool.false_eq_true, Bool.not_true, Bool.not_false, List.getElem?_cons_zero, List.getElem?_cons_succ, List.drop_succ_cons, List.drop_zero, isOf_non, isOf_bl, isOf_int, isOf_str, isOf_tup, isOf_lst, isOf_rol, isOf_dct, isA, String.reduceBEq, Bool.or_self, Bool.false_or, Bool.or_false, Bool.and_false, Bool.false_and, Bool.and_true, Bool.true_and, Bool.true_or, Bool.or_true, Bool.and_self, ofs_beq, cast0, cast1, cast2, cast3, cast4, cast5, beq_self_eq_true, Int.reduceLE, Int.reduceLT, Int.reduceAdd, Int.reduceSub, Int.reduceNeg, decide_true, decide_false, we_lc, we_lcC, ws_for, abs10, getO_str, Nat.reduceLT])
variable {S : Sto} {Q : D → Sto → Prop} {n m h t : Nat} {d : D} {xs ys : List D}
theorem wf_lenC {c : List D} (e : S[n]? = some (some c)) : WF fLen [.loc n] S Q ↔ Q (.int c.length) S := by
  refine wf_is ?_
  show (match S[n]? with
    | some (some c) => some (D.int c.length, S)
    | _ => none) = _
  rw [e]
theorem wb_ixC {c : List D} {i : Nat} (e : S[n]? = some (some c)) : WB fIx (.loc n) (.int (i : Nat)) S Q ↔ On c[i]? fun d => Q d S := by
  show (∃ d S', (match S[n]? with
    | some (some c) => (atI c (i : Nat)).map fun z => (z, S)
    | _ => none) = some (d, S') ∧ Q d S') ↔ _
  rw [e]
  show (∃ d S', (atI c (i : Nat)).map _ = some (d, S') ∧ Q d S') ↔ _
  rw [opt_iff, atI_nn]
theorem slC {c : List D} {lo hi : Option Int} {P : D → Prop} (e : S[n]? = some (some c)) : On (fSlS (.loc n) lo hi S) P ↔ P (.lst (DL.cutD c lo hi)) := by
  have : fSlS (.loc n) lo hi S = some (.lst (DL.cutD c lo hi)) := by
    show (match S[n]? with
      | some (some c) => some (D.lst (DL.cutD c lo hi))
      | _ => none) = _
    rw [e]
  rw [this]
  exact on_some
theorem slCL {lo hi : Option Int} {P : D → Prop} : On (fSlS (.lst xs) lo hi S) P ↔ P (.lst (DL.cutD xs lo hi)) := on_some
variable {ρ : Env'} {m1 : ME}
theorem we_slS {l h : MO} : SW.WE (mSlS m1 l h) ρ S Q ↔ SW.WE m1 ρ S fun d S1 => SW.WO l ρ S1 fun i S2 => SW.WO h ρ S2 fun j S3 => On (fSlS d i j S3) fun z => Q z S3 := by
  unfold SW.WE mSlS SW.WO
  simp only [bind_iff, opt_iff]
def tupOf : D → Option (List D)
  | .tup xs => some xs
  | _ => none
theorem tupOf_tup : tupOf (.tup xs) = some xs := rfl
theorem we_rev : SW.WE (mRev m1) ρ S Q ↔ SW.WE m1 ρ S fun d S1 => On (tupOf d) fun xs => Q (.tup xs.reverse) S1 := by
  unfold SW.WE mRev
  simp only [bind_iff]
  refine exists_congr fun x => exists_congr fun S1 => and_congr_right fun _ => ?_
  cases x <;> first | (simp only [tupOf, on_some]; exact some_iff) | (simp [tupOf, On]; done)
theorem Fits.rev : ∀ {xs : List D} {n : Nat}, Fits n h t xs → Fits n h t xs.reverse
  | [], _, f => f
  | x :: xs, n, f => by
    rw [List.reverse_cons]
    have w := f.wt
    simp only [D.pys, PyData.bulkAll] at w
    have f1 : Fit (x.py.bulk + 1) h t x := ⟨f.head.1.pl, Nat.le_refl _, f.head.1.dp, f.head.1.tp⟩
    have f2 : Fits (n - (x.py.bulk + 1)) h t xs := ⟨f.head.2.pl, by omega, f.head.2.dp, f.head.2.tp⟩
    exact (fits_app f2.rev (Fits.cons f1 Fits.nil)).mono (by omega) (Nat.le_refl _) (Nat.le_refl _)
theorem Fits.take (f : Fits n h t xs) (k : Nat) : Fits n h t (xs.take k) := by
  have e := List.take_append_drop k xs
  obtain ⟨a, b, c, g⟩ := f
  rw [← e] at a b c g
  rw [pl_app, Bool.and_eq_true] at a
  rw [wt_app] at b
  rw [dp_app] at c
  rw [td_app] at g
  exact ⟨a.1, by omega, by omega, by omega⟩
theorem Fits.drop (f : Fits n h t xs) (k : Nat) : Fits n h t (xs.drop k) := by
  have e := List.take_append_drop k xs
  obtain ⟨a, b, c, g⟩ := f
  rw [← e] at a b c g
  rw [pl_app, Bool.and_eq_true] at a
  rw [wt_app] at b
  rw [dp_app] at c
  rw [td_app] at g
  exact ⟨a.2, by omega, by omega, by omega⟩
theorem take_up {v : Int} (h : 0 ≤ v) : DL.cutD xs none (some v) = xs.take v.toNat := by
  obtain ⟨n, rfl⟩ := Int.eq_ofNat_of_zero_le h
  exact cut_upto
theorem drop_up {v : Int} (h : 0 ≤ v) : DL.cutD xs (some v) none = xs.drop v.toNat := by
  obtain ⟨n, rfl⟩ := Int.eq_ofNat_of_zero_le h
  exact cut_from
/-- an item that stands twice, one that is out -/
theorem fits_twice {j : Nat} (f : Fits n h t xs) : Fits (n + n) h t (xs.take (j + 1) ++ xs.drop j) := fits_app (f.take _) (f.drop _)
theorem fits_out {j k : Nat} (hj : j ≤ k) (f : Fits n h t xs) : Fits n h t (xs.take j ++ xs.drop k) := by
  have e : xs = xs.take k ++ xs.drop k := (List.take_append_drop k xs).symm
  have e2 : xs.take j = (xs.take k).take j := by rw [List.take_take, Nat.min_eq_left hj]
  obtain ⟨a, b, c, g⟩ := f
  have g0 : Fits (PyData.bulkAll (D.pys (xs.take k))) h t (xs.take k) := ⟨(Fits.take ⟨a, b, c, g⟩ k).pl, Nat.le_refl _, (Fits.take ⟨a, b, c, g⟩ k).dp, (Fits.take ⟨a, b, c, g⟩ k).tp⟩
  have g1 : Fits (PyData.bulkAll (D.pys (xs.drop k))) h t (xs.drop k) := ⟨(Fits.drop ⟨a, b, c, g⟩ k).pl, Nat.le_refl _, (Fits.drop ⟨a, b, c, g⟩ k).dp, (Fits.drop ⟨a, b, c, g⟩ k).tp⟩
  rw [e2]
  rw [e] at b
  rw [wt_app] at b
  exact (fits_app (g0.take j) g1).mono b (Nat.le_refl _) (Nat.le_refl _)
end SX
/-! SXg -/
/-! SXg: the program's look at a query. -/
namespace SX
open PySem PySem.Spec PyProof.Rows L2 DL SH SW
local macro_rules | `(tactic| walk_at "sw") => `(tactic| simp only [we_var, we_c, we_bin, we_call, wa_nil, wa_cons, we_tup, we_lst, we_cel, we_dic, we_neg, wo_np, wo_pt, we_sl, we_isi, we_st0, we_din, we_dix, we_andV, we_orV, we_notV, we_if, we_chn, we_get2, wt_bl, wt_tr, wt_not, wt_and, wt_or, wt_yes, ws_next, ws_seq, ws_ret, ws_drop, ws_set, ws_if, ws_brk, ws_cnt, ws_asg, ws_par, ws_aug, wf_fn, wa_sq, wa_rg, wr_nil, wr_cons, we_app, we_ext, we_pop, on_some, intOf_int, strOf_str, blOf_bl, nx_nx, nx_rt, nx_bk, nx_ct, rt_rt, rt_nx, tn_nx, tn_ct, tn_bk, tn_rt, at_zero, at_succ, wipe_nil, wipe_cons, on_gN, on_gT, on_gNl, on_gCn, wb_addI, wb_addS, wb_addL, wb_addT, wb_subI, wb_mulI, wb_mulL, wb_mulS, wb_mulT, wb_mod, wb_div, wb_pow, wb_cmp, wb_eqI, wb_eqS, wb_eqB, wb_neI, wb_neS, wb_isN, wb_ixT0, wb_ixT1, wb_ixT2, wb_ixL0, wb_ixL1, wb_ixL2, wf_lenT, wf_lenL, wf_lenS, wf_intI, wf_intB, wf_tupL, wf_tupT, wf_lisT, wf_lisL, wf_min, slT, slL, slS, on_trB, on_trT, on_trL, itT, itL, itS, cut1, List.set_cons_zero, List.set_cons_succ, List.map_cons, List.map_nil, List.length_cons, List.length_nil, Nat.reduceAdd, Nat.reduceSub, List.replicate_succ, List.replicate_zero, List.cons_append, List.nil_append, List.append_nil, if_true, if_false, Bool.false_eq_true, Bool.not_true, Bool.not_false, List.getElem?_cons_zero, List.getElem?_cons_succ, List.drop_succ_cons, List.drop_zero, isOf_non, isOf_bl, isOf_int, isOf_str, isOf_tup, isOf_lst, isOf_rol, isOf_dct, isA, String.reduceBEq, Bool.or_self, Bool.false_or, Bool.or_false, Bool.and_false, Bool.false_and, Bool.and_true, Bool.true_and, Bool.true_or, Bool.or_true, Bool.and_self, ofs_beq, cast0, cast1, cast2, cast3, cast4, cast5, beq_self_eq_true, Int.reduceLE, Int.reduceLT, Int.reduceAdd, Int.reduceSub, Int.reduceNeg, decide_true, decide_false, we_lc, we_lcC, ws_for, abs10, getO_str, Nat.reduceLT])
def b_is_source : MS :=
    (sRet (mAndV (mCall m_is_tuple (mCons (mVar 0) (mCons (mC (.int 2)) (mCons (mC (.int 2)) mNil)))) (mAndV (mCall m_is_name (mCons (mBin fIx (mVar 0) (mC (.int 0))) mNil)) (mCall m_is_ref (mCons (mBin fIx (mVar 0) (mC (.int 1))) mNil)))))
def m_is_source : MF := mFn 1 b_is_source
def b_is_field : MS :=
    (sSeq (sIf (mOrT (mNotT (mTr (mCall m_is_tuple (mCons (mVar 0) (mCons (mC (.int 3)) (mCons (mC (.int 3)) mNil)))))) (mNotT (mTr (mCall fAll (mCons (mLc (mSq (mVar 0)) (gN 2) mYes (mCall m_is_name (mCons (mVar 2) mNil)) [2]) mNil))))) (sRet (mC (.bl false))) sNext)
    (sRet (mAndV (mBin fEq (mBin fIx (mVar 0) (mC (.int 0))) (mC (.str "of"))) (mBin (fIn false) (mBin fIx (mVar 0) (mC (.int 1))) (mVar 1)))))
def m_is_field : MF := mFn 3 b_is_field
def b_is_side : MS :=
    (sRet (mOrV (mCall m_is_field (mCons (mVar 0) (mCons (mVar 1) mNil))) (mCall m_is_constant (mCons (mVar 0) mNil))))
def m_is_side : MF := mFn 2 b_is_side
def b_is_condition : MS :=
    (sRet (mAndV (mCall m_is_tuple (mCons (mVar 0) (mCons (mC (.int 2)) (mCons (mC (.int 2)) mNil)))) (mAndV (mCall m_is_field (mCons (mBin fIx (mVar 0) (mC (.int 0))) (mCons (mVar 1) mNil))) (mCall m_is_side (mCons (mBin fIx (mVar 0) (mC (.int 1))) (mCons (mVar 1) mNil))))))
def m_is_condition : MF := mFn 2 b_is_condition
def b_is_part : MS :=
    (sSeq (sIf (mNotT (mTr (mCall m_is_tuple (mCons (mVar 0) (mCons (mC (.int 3)) (mCons (mC (.int 3)) mNil)))))) (sRet (mC (.bl false))) sNext)
    (sSeq (sAsg (gT 3 (gCn (gN 1) (gCn (gN 2) (gCn (gN 3) gNl)))) (mVar 0))
    (sSeq (sIf (mOrT (mNotT (mTr (mCall m_is_tuple (mCons (mVar 1) (mCons (mC (.int 1)) (mCons (mC (.int 3)) mNil)))))) (mNotT (mTr (mCall fAll (mCons (mLc (mSq (mVar 1)) (gN 5) mYes (mCall m_is_source (mCons (mVar 5) mNil)) [5]) mNil))))) (sRet (mC (.bl false))) sNext)
    (sSeq (sSet 4 (mLc (mSq (mVar 1)) (gN 5) mYes (mBin fIx (mVar 5) (mC (.int 0))) [5]))
    (sSeq (sIf (mBl (mBin (fCmp fun i j => decide (i < j)) (mLenSet (mVar 4)) (mCall fLen (mCons (mVar 4) mNil)))) (sRet (mC (.bl false))) sNext)
    (sSeq (sIf (mOrT (mNotT (mTr (mCall m_is_tuple (mCons (mVar 2) (mCons (mC (.int 0)) (mCons (mC (.int 6)) mNil)))))) (mNotT (mTr (mCall fAll (mCons (mLc (mSq (mVar 2)) (gN 6) mYes (mCall m_is_condition (mCons (mVar 6) (mCons (mVar 4) mNil))) [6]) mNil))))) (sRet (mC (.bl false))) sNext)
    (sRet (mAndV (mCall m_is_tuple (mCons (mVar 3) (mCons (mC (.int 1)) (mCons (mC (.int 6)) mNil)))) (mCall fAll (mCons (mLc (mSq (mVar 3)) (gN 7) mYes (mCall m_is_side (mCons (mVar 7) (mCons (mVar 4) mNil))) [7]) mNil))))))))))
def m_is_part : MF := mFn 8 b_is_part
def b_is_query : MS :=
    (sSeq (sIf (mOrT (mNotT (mTr (mCall m_is_tuple (mCons (mVar 0) (mCons (mC (.int 1)) (mCons (mC (.int 4)) mNil)))))) (mNotT (mTr (mCall fAll (mCons (mLc (mSq (mVar 0)) (gN 1) mYes (mCall m_is_part (mCons (mVar 1) mNil)) [1]) mNil))))) (sRet (mC (.bl false))) sNext)
    (sRet (mBin fEq (mLenSc (mSq (mVar 0)) (gN 1) (mCall fLen (mCons (mBin fIx (mVar 1) (mC (.int 2))) mNil)) [1]) (mC (.int 1)))))
def m_is_query : MF := mFn 2 b_is_query
variable {S : Sto} {Q : D → Sto → Prop} {n h t : Nat} {d : D} {ρ : Env'} {m1 : ME}
def textsOf (d : D) : Option (List Str) := (seqOf d).bind strsOf
theorem we_lenSet : SW.WE (mLenSet m1) ρ S Q ↔ SW.WE m1 ρ S fun d S1 => On (textsOf d) fun ys => ys.length ≤ 4090 ∧ Q (.int (unl ys ys.length : Nat)) S1 := by
  unfold SW.WE mLenSet
  simp only [bind_iff]
  refine exists_congr fun x => exists_congr fun S1 => and_congr_right fun _ => ?_
  unfold textsOf On
  cases seqOf x with
  | none => simp
  | some ds =>
    simp only [Option.bind_some]
    cases strsOf ds with
    | none => simp
    | some ys =>
      simp only [ite_iff, Option.some.injEq, exists_eq_left']
      exact and_congr_right fun _ => ⟨fun ⟨d, S', e, q⟩ => by cases e; exact q, fun q => ⟨_, _, rfl, q⟩⟩
theorem we_lenSc {s : MA} {g : MG} {vs : List Nat} : SW.WE (mLenSc s g m1 vs) ρ S Q ↔ SW.WA s ρ S fun ds S1 => ds.length ≤ 1000 ∧ WL g mYes m1 (wipeD ρ vs) ds S1 fun rs S2 => On (intsOf rs) fun ns => Q (.int (unl ns ns.length : Nat)) S2 := by
  unfold SW.WE mLenSc SW.WA WL On
  simp only [bind_iff, ite_iff, opt_iff, On]
def tw (f : D → D → Bool) : D → Bool
  | .tup [x, y] => f x y
  | _ => false
def th (f : D → D → D → Bool) : D → Bool
  | .tup [x, y, z] => f x y z
  | _ => false
theorem tw_cases (d : D) : (∃ x y, d = .tup [x, y]) ∨ (tupB 2 2 d = false ∧ ∀ f, tw f d = false) := by
  cases d <;> try (exact .inr ⟨rfl, fun f => rfl⟩)
  rename_i xs
  match xs with
  | [] => exact .inr ⟨rfl, fun f => rfl⟩
  | [x] => exact .inr ⟨rfl, fun f => rfl⟩
  | [x, y] => exact .inl ⟨x, y, rfl⟩
  | x :: y :: z :: r =>
    refine .inr ⟨?_, fun f => rfl⟩
    show (decide ((2 : Int) ≤ ((x :: y :: z :: r).length : Int)) && decide (((x :: y :: z :: r).length : Int) ≤ 2)) = false
    rw [decide_eq_false (p := ((x :: y :: z :: r).length : Int) ≤ 2) (by simp only [List.length_cons]; omega), Bool.and_false]
theorem th_cases (d : D) : (∃ x y z, d = .tup [x, y, z]) ∨ (tupB 3 3 d = false ∧ ∀ f, th f d = false) := by
  cases d <;> try (exact .inr ⟨rfl, fun f => rfl⟩)
  rename_i xs
  match xs with
  | [] => exact .inr ⟨rfl, fun f => rfl⟩
  | [x] => exact .inr ⟨rfl, fun f => rfl⟩
  | [x, y] => exact .inr ⟨rfl, fun f => rfl⟩
  | [x, y, z] => exact .inl ⟨x, y, z, rfl⟩
  | x :: y :: z :: u :: r =>
    refine .inr ⟨?_, fun f => rfl⟩
    show (decide ((3 : Int) ≤ ((x :: y :: z :: u :: r).length : Int)) && decide (((x :: y :: z :: u :: r).length : Int) ≤ 3)) = false
    rw [decide_eq_false (p := ((x :: y :: z :: u :: r).length : Int) ≤ 3) (by simp only [List.length_cons]; omega), Bool.and_false]
theorem t2 {x y : D} : tupB 2 2 (.tup [x, y]) = true := rfl
theorem t3 {x y z : D} : tupB 3 3 (.tup [x, y, z]) = true := rfl
def srcAny : D → Bool := tw fun x y => nmAny x && refAny y
theorem is_source (a : Any d) : m_is_source [d] S = some (.bl (srcAny d), S) := by
  refine wf_eq ?_
  unfold m_is_source b_is_source
  walk_at "sw"
  rw [wf_is (is_tuple a.full)]
  walk_at "sw"
  rcases tw_cases d with ⟨x, y, rfl⟩ | ⟨h1, h2⟩
  · rw [t2, if_pos rfl]
    walk_at "sw"
    rw [wf_is (is_name (a.item x (by simp)))]
    walk_at "sw"
    have e : srcAny (.tup [x, y]) = (nmAny x && refAny y) := rfl
    rw [e]
    cases nmAny x with
    | false => exact ⟨rfl, trivial⟩
    | true =>
      rw [if_pos rfl, wf_is (is_ref (a.item y (by simp)))]
      exact ⟨rfl, rfl⟩
  · rw [h1, if_neg Bool.false_ne_true, srcAny, h2]
    exact ⟨rfl, trivial⟩
def fldAny (al : List Str) : D → Bool := th fun x y z => (nmAny x && (nmAny y && nmAny z)) && (isK "of" x && al.any fun w => isK w y)
theorem is_field {al : List Str} (a : Any d) : m_is_field [d, .lst (al.map D.str)] S = some (.bl (fldAny al d), S) := by
  refine wf_eq ?_
  unfold m_is_field b_is_field
  walk_at "sw"
  rw [wf_is (is_tuple a.full)]
  walk_at "sw"
  rcases th_cases d with ⟨x, y, z, rfl⟩ | ⟨h1, h2⟩
  · rw [t3, if_neg (by simp)]
    walk_at "sw"
    refine ⟨by decide, wl_pure (f := fun d => .bl (nmAny d)) (fun u hu => ?_) ?_⟩
    · walk_at "sw"
      rw [wf_is (is_name (a.item u hu))]
      exact ⟨rfl, rfl⟩
    · rw [wf_is fAll_map]
      walk_at "sw"
      have e : fldAny al (.tup [x, y, z]) = ([x, y, z].all nmAny && (isK "of" x && al.any fun w => isK w y)) := by
        show ((nmAny x && (nmAny y && nmAny z)) && (isK "of" x && al.any fun w => isK w y)) = _
        simp
      rw [e]
      cases [x, y, z].all nmAny with
      | false => simp
      | true =>
        rw [if_neg (by simp), wb_eqK (a.item x (by simp)).full]
        walk_at "sw"
        cases isK ("of" : Str) x with
        | false => simp
        | true =>
          rw [if_pos rfl, wb_inK (zs := al) rfl (a.item y (by simp)).full]
          exact ⟨rfl, rfl⟩
  · rw [h1, fldAny, h2]
    simp
def sideAny (al : List Str) (d : D) : Bool := fldAny al d || conAny d
theorem is_side {al : List Str} (a : Any d) : m_is_side [d, .lst (al.map D.str)] S = some (.bl (sideAny al d), S) := by
  refine wf_eq ?_
  unfold m_is_side b_is_side
  walk_at "sw"
  rw [wf_is (is_field a)]
  walk_at "sw"
  unfold sideAny
  cases fldAny al d with
  | true => exact ⟨rfl, trivial⟩
  | false =>
    rw [if_neg Bool.false_ne_true, wf_is (is_constant a)]
    exact ⟨rfl, rfl⟩
def cndAny (al : List Str) : D → Bool := tw fun x y => fldAny al x && sideAny al y
theorem is_condition {al : List Str} (a : Any d) : m_is_condition [d, .lst (al.map D.str)] S = some (.bl (cndAny al d), S) := by
  refine wf_eq ?_
  unfold m_is_condition b_is_condition
  walk_at "sw"
  rw [wf_is (is_tuple a.full)]
  walk_at "sw"
  rcases tw_cases d with ⟨x, y, rfl⟩ | ⟨h1, h2⟩
  · rw [t2, if_pos rfl]
    walk_at "sw"
    rw [wf_is (is_field (a.item x (by simp)))]
    walk_at "sw"
    have e : cndAny al (.tup [x, y]) = (fldAny al x && sideAny al y) := rfl
    rw [e]
    cases fldAny al x with
    | false => exact ⟨rfl, trivial⟩
    | true =>
      rw [if_pos rfl, wf_is (is_side (a.item y (by simp)))]
      exact ⟨rfl, rfl⟩
  · rw [h1, if_neg Bool.false_ne_true, cndAny, h2]
    exact ⟨rfl, trivial⟩
/-- the aliases of sources -/
def aliOf : D → Str
  | .tup [.str s, _] => s
  | _ => ""
theorem src_shape (h : srcAny d = true) : ∃ s y, d = .tup [.str s, y] ∧ nmB s = true ∧ refAny y = true := by
  rcases tw_cases d with ⟨x, y, rfl⟩ | ⟨_, h2⟩
  · have h : (nmAny x && refAny y) = true := h
    rw [Bool.and_eq_true] at h
    cases x <;> first | exact ⟨_, _, rfl, h.1, h.2⟩ | cases h.1
  · rw [srcAny, h2] at h
    cases h
def allOf (lo hi : Int) (f : D → Bool) : D → Bool
  | .tup xs => (decide (lo ≤ (xs.length : Int)) && decide ((xs.length : Int) ≤ hi)) && xs.all f
  | _ => false
def itemsOf : D → List D
  | .tup xs => xs
  | _ => []
def partAny : D → Bool := th fun s c o => allOf 1 3 srcAny s && (decide (¬ unl ((itemsOf s).map aliOf) ((itemsOf s).map aliOf).length < ((itemsOf s).map aliOf).length) && (allOf 0 6 (cndAny ((itemsOf s).map aliOf)) c && allOf 1 6 (sideAny ((itemsOf s).map aliOf)) o))
theorem strs_map : ∀ ys : List Str, strsOf (ys.map D.str) = some ys
  | [] => rfl
  | y :: ys => by
    show (strsOf (ys.map D.str)).map (y :: ·) = _
    rw [strs_map ys]
    rfl
theorem allOf_no {lo hi : Int} {f : D → Bool} (h : tupB lo hi d = false) : allOf lo hi f d = false := by
  cases d <;> try rfl
  rename_i xs
  have h : (decide (lo ≤ (xs.length : Int)) && decide ((xs.length : Int) ≤ hi)) = false := h
  show ((decide (lo ≤ (xs.length : Int)) && decide ((xs.length : Int) ≤ hi)) && xs.all f) = false
  rw [h, Bool.false_and]
theorem allOf_yes {lo hi : Int} {f : D → Bool} {xs : List D} (h : tupB lo hi (.tup xs) = true) : allOf lo hi f (.tup xs) = xs.all f := by
  have h : (decide (lo ≤ (xs.length : Int)) && decide ((xs.length : Int) ≤ hi)) = true := h
  show ((decide (lo ≤ (xs.length : Int)) && decide ((xs.length : Int) ≤ hi)) && xs.all f) = _
  rw [h, Bool.true_and]
theorem tup_of {lo hi : Int} (h : tupB lo hi d = true) : ∃ xs, d = .tup xs ∧ (xs.length : Int) ≤ hi := by
  cases d <;> try (cases h; done)
  rename_i xs
  have h : (decide (lo ≤ (xs.length : Int)) && decide ((xs.length : Int) ≤ hi)) = true := h
  rw [Bool.and_eq_true, decide_eq_true_eq, decide_eq_true_eq] at h
  exact ⟨xs, rfl, h.2⟩
theorem is_part (a : Any d) : m_is_part [d] S = some (.bl (partAny d), S) := by
  refine wf_eq ?_
  unfold m_is_part b_is_part
  walk_at "sw"
  rw [wf_is (is_tuple a.full)]
  walk_at "sw"
  rcases th_cases d with ⟨s, c, o, rfl⟩ | ⟨h1, h2⟩
  · have as := a.item s (by simp)
    have ac := a.item c (by simp)
    have ao := a.item o (by simp)
    rw [t3, if_neg (by simp)]
    walk_at "sw"
    simp only [true_and]
    rw [wf_is (is_tuple as.full)]
    walk_at "sw"
    have e : partAny (.tup [s, c, o]) = (allOf 1 3 srcAny s && (decide (¬ unl ((itemsOf s).map aliOf) ((itemsOf s).map aliOf).length < ((itemsOf s).map aliOf).length) && (allOf 0 6 (cndAny ((itemsOf s).map aliOf)) c && allOf 1 6 (sideAny ((itemsOf s).map aliOf)) o))) := rfl
    rw [e]
    cases hs : tupB 1 3 s with
    | false =>
      rw [allOf_no hs]
      simp
    | true =>
      obtain ⟨ss, rfl, l3⟩ := tup_of hs
      rw [if_neg (by simp), allOf_yes hs]
      walk_at "sw"
      refine ⟨by omega, wl_pure (f := fun d => .bl (srcAny d)) (fun u hu => ?_) ?_⟩
      · walk_at "sw"
        rw [wf_is (is_source (as.item u hu))]
        exact ⟨rfl, rfl⟩
      · rw [wf_is fAll_map]
        walk_at "sw"
        cases hall : ss.all srcAny with
        | false => simp
        | true =>
          rw [if_neg (by simp)]
          try walk_at "sw"
          refine ⟨by omega, wl_pure (f := fun d => .str (aliOf d)) (fun u hu => ?_) ?_⟩
          · obtain ⟨w, y, rfl, _, _⟩ := src_shape (List.all_eq_true.mp hall u hu)
            walk_at "sw"
            exact ⟨rfl, trivial⟩
          · have e2 : ss.map (fun d => D.str (aliOf d)) = (ss.map aliOf).map D.str := by
              rw [List.map_map]
              rfl
            have e3 : itemsOf (.tup ss) = ss := rfl
            rw [e2, e3, we_lenSet]
            generalize eal : ss.map aliOf = al
            have lal : al.length = ss.length := by rw [← eal, List.length_map]
            walk_at "sw"
            have e4 : textsOf (.lst (al.map D.str)) = some al := strs_map al
            rw [e4, on_some]
            refine ⟨by omega, ?_⟩
            try walk_at "sw"
            simp only [List.length_map]
            by_cases hu : unl al al.length < al.length
            · rw [if_pos (by simpa using hu), decide_eq_false (by simpa using hu), Bool.false_and]
              exact ⟨rfl, trivial⟩
            · rw [if_neg (by simpa using hu), decide_eq_true hu, Bool.true_and, wf_is (is_tuple ac.full)]
              walk_at "sw"
              cases hc : tupB 0 6 c with
              | false =>
                rw [allOf_no hc]
                simp
              | true =>
                obtain ⟨cs, rfl, l6⟩ := tup_of hc
                rw [if_neg (by simp), allOf_yes hc]
                walk_at "sw"
                refine ⟨by omega, wl_pure (f := fun d => .bl (cndAny al d)) (fun u hu => ?_) ?_⟩
                · walk_at "sw"
                  rw [wf_is (is_condition (ac.item u hu))]
                  exact ⟨rfl, rfl⟩
                · rw [wf_is fAll_map]
                  walk_at "sw"
                  cases cs.all (cndAny al) with
                  | false => simp
                  | true =>
                    rw [if_neg (by simp), Bool.true_and]
                    try walk_at "sw"
                    rw [wf_is (is_tuple ao.full)]
                    walk_at "sw"
                    cases ho : tupB 1 6 o with
                    | false =>
                      rw [allOf_no ho]
                      simp
                    | true =>
                      obtain ⟨os, rfl, l7⟩ := tup_of ho
                      rw [if_pos rfl, allOf_yes ho]
                      walk_at "sw"
                      refine ⟨by omega, wl_pure (f := fun d => .bl (sideAny al d)) (fun u hu => ?_) ?_⟩
                      · walk_at "sw"
                        rw [wf_is (is_side (ao.item u hu))]
                        exact ⟨rfl, rfl⟩
                      · rw [wf_is fAll_map]
                        exact ⟨rfl, rfl⟩
  · rw [h1, partAny, h2]
    simp
/-- how many outputs -/
def outN : D → Int
  | .tup [_, _, .tup os] => (os.length : Nat)
  | _ => 0
theorem part_shape (h : partAny d = true) : ∃ s c os, d = .tup [s, c, .tup os] := by
  rcases th_cases d with ⟨s, c, o, rfl⟩ | ⟨_, h2⟩
  · have h : (allOf 1 3 srcAny s && (decide (¬ unl ((itemsOf s).map aliOf) ((itemsOf s).map aliOf).length < ((itemsOf s).map aliOf).length) && (allOf 0 6 (cndAny ((itemsOf s).map aliOf)) c && allOf 1 6 (sideAny ((itemsOf s).map aliOf)) o))) = true := h
    rw [Bool.and_eq_true, Bool.and_eq_true, Bool.and_eq_true] at h
    cases ho : tupB 1 6 o with
    | false =>
      rw [allOf_no ho] at h
      cases h.2.2.2
    | true =>
      obtain ⟨os, rfl, _⟩ := tup_of ho
      exact ⟨s, c, os, rfl⟩
  · rw [partAny, h2] at h
    cases h
def qryAny (d : D) : Bool := allOf 1 4 partAny d && (unl ((itemsOf d).map outN) ((itemsOf d).map outN).length == 1)
theorem ints_map' {α : Type} {f : α → Int} : ∀ l : List α, intsOf (l.map fun x => D.int (f x)) = some (l.map f)
  | [] => rfl
  | x :: l => by
    show (intsOf (l.map fun x => D.int (f x))).map _ = _
    rw [ints_map' l]
    rfl
theorem is_query (a : Any d) : m_is_query [d] S = some (.bl (qryAny d), S) := by
  refine wf_eq ?_
  unfold m_is_query b_is_query
  walk_at "sw"
  rw [wf_is (is_tuple a.full)]
  walk_at "sw"
  unfold qryAny
  cases hd : tupB 1 4 d with
  | false =>
    rw [allOf_no hd]
    simp
  | true =>
    obtain ⟨ps, rfl, l4⟩ := tup_of hd
    rw [if_neg (by simp), allOf_yes hd]
    walk_at "sw"
    refine ⟨by omega, wl_pure (f := fun d => .bl (partAny d)) (fun u hu => ?_) ?_⟩
    · walk_at "sw"
      rw [wf_is (is_part (a.item u hu))]
      exact ⟨rfl, rfl⟩
    · rw [wf_is fAll_map]
      walk_at "sw"
      cases hall : ps.all partAny with
      | false => simp
      | true =>
        rw [if_neg (by simp), Bool.true_and]
        try walk_at "sw"
        rw [we_lenSc]
        walk_at "sw"
        refine ⟨by omega, wl_pure (f := fun d => .int (outN d)) (fun u hu => ?_) ?_⟩
        · obtain ⟨s, c, os, rfl⟩ := part_shape (List.all_eq_true.mp hall u hu)
          walk_at "sw"
          exact ⟨rfl, trivial⟩
        · rw [ints_map', on_some]
          walk_at "sw"
          refine ⟨?_, trivial⟩
          congr 1
          show _ = (unl (ps.map outN) (ps.map outN).length == 1)
          rw [Bool.eq_iff_iff, beq_iff_eq, beq_iff_eq]
          omega
end SX
/-! K20M -/
namespace LAW
open PySem PySem.Spec PyProof.Rows L2 DL
/-! ### the defs as functions over data -/
def b_is_tuple : MS :=
    (sRet (mAndV (mIsi "tuple" (mVar 0)) (mChn (fCmp fun i j => decide (i ≤ j)) (fCmp fun i j => decide (i ≤ j)) (mVar 1) (mCall fLen (mCons (mVar 0) mNil)) (mVar 2))))
def m_is_tuple : MF := mFn 3 b_is_tuple
def b_is_name : MS :=
    (sSeq (sIf (mOrT (mNotT (mTr (mIsi "str" (mVar 0)))) (mBl (mBin (fCmp fun i j => decide (j < i)) (mCall fLen (mCons (mVar 0) mNil)) (mC (.int 8))))) (sRet (mC (.bl false))) sNext)
    (sRet (mAndV (mSt0 (fun y => .bl (Txt.isascii y)) (mVar 0)) (mAndV (mSt0 (fun y => .bl (Txt.isalpha y)) (mVar 0)) (mSt0 (fun y => .bl (Txt.islower y)) (mVar 0))))))
def m_is_name : MF := mFn 1 b_is_name
def b_is_ref : MS :=
    (sRet (mOrV (mCall m_is_name (mCons (mVar 0) mNil)) (mAndV (mCall m_is_tuple (mCons (mVar 0) (mCons (mC (.int 2)) (mCons (mC (.int 2)) mNil)))) (mAndV (mCall m_is_name (mCons (mBin fIx (mVar 0) (mC (.int 0))) mNil)) (mCall m_is_name (mCons (mBin fIx (mVar 0) (mC (.int 1))) mNil))))))
def m_is_ref : MF := mFn 1 b_is_ref
def b_is_source : MS :=
    (sRet (mAndV (mCall m_is_tuple (mCons (mVar 0) (mCons (mC (.int 2)) (mCons (mC (.int 2)) mNil)))) (mAndV (mCall m_is_name (mCons (mBin fIx (mVar 0) (mC (.int 0))) mNil)) (mCall m_is_ref (mCons (mBin fIx (mVar 0) (mC (.int 1))) mNil)))))
def m_is_source : MF := mFn 1 b_is_source
def b_is_integer : MS :=
    (sRet (mAndV (mIsi "int" (mVar 0)) (mNotV (mIsi "bool" (mVar 0)))))
def m_is_integer : MF := mFn 1 b_is_integer
def b_is_constant : MS :=
    (sSeq (sIf (mOrT (mNotT (mTr (mCall m_is_tuple (mCons (mVar 0) (mCons (mC (.int 2)) (mCons (mC (.int 2)) mNil)))))) (mNotT (mTr (mIsi "str" (mBin fIx (mVar 0) (mC (.int 0))))))) (sRet (mC (.bl false))) sNext)
    (sSeq (sAsg (gT 2 (gCn (gN 1) (gCn (gN 2) gNl))) (mVar 0))
    (sSeq (sIf (mBl (mBin fEq (mVar 1) (mC (.str "int")))) (sRet (mAndV (mCall m_is_integer (mCons (mVar 2) mNil)) (mChn (fCmp fun i j => decide (i ≤ j)) (fCmp fun i j => decide (i ≤ j)) (mNeg (mC (.int 1000000000000000000))) (mVar 2) (mC (.int 1000000000000000000))))) sNext)
    (sRet (mAndV (mBin fEq (mVar 1) (mC (.str "text"))) (mAndV (mIsi "str" (mVar 2)) (mBin (fCmp fun i j => decide (i ≤ j)) (mCall fLen (mCons (mVar 2) mNil)) (mC (.int 20)))))))))
def m_is_constant : MF := mFn 3 b_is_constant
def b_is_field : MS :=
    (sSeq (sIf (mOrT (mNotT (mTr (mCall m_is_tuple (mCons (mVar 0) (mCons (mC (.int 3)) (mCons (mC (.int 3)) mNil)))))) (mNotT (mTr (mCall fAll (mCons (mLc (mSq (mVar 0)) (gN 2) mYes (mCall m_is_name (mCons (mVar 2) mNil)) [2]) mNil))))) (sRet (mC (.bl false))) sNext)
    (sRet (mAndV (mBin fEq (mBin fIx (mVar 0) (mC (.int 0))) (mC (.str "of"))) (mBin (fIn false) (mBin fIx (mVar 0) (mC (.int 1))) (mVar 1)))))
def m_is_field : MF := mFn 3 b_is_field
def b_is_side : MS :=
    (sRet (mOrV (mCall m_is_field (mCons (mVar 0) (mCons (mVar 1) mNil))) (mCall m_is_constant (mCons (mVar 0) mNil))))
def m_is_side : MF := mFn 2 b_is_side
def b_is_condition : MS :=
    (sRet (mAndV (mCall m_is_tuple (mCons (mVar 0) (mCons (mC (.int 2)) (mCons (mC (.int 2)) mNil)))) (mAndV (mCall m_is_field (mCons (mBin fIx (mVar 0) (mC (.int 0))) (mCons (mVar 1) mNil))) (mCall m_is_side (mCons (mBin fIx (mVar 0) (mC (.int 1))) (mCons (mVar 1) mNil))))))
def m_is_condition : MF := mFn 2 b_is_condition
def b_is_part : MS :=
    (sSeq (sIf (mNotT (mTr (mCall m_is_tuple (mCons (mVar 0) (mCons (mC (.int 3)) (mCons (mC (.int 3)) mNil)))))) (sRet (mC (.bl false))) sNext)
    (sSeq (sAsg (gT 3 (gCn (gN 1) (gCn (gN 2) (gCn (gN 3) gNl)))) (mVar 0))
    (sSeq (sIf (mOrT (mNotT (mTr (mCall m_is_tuple (mCons (mVar 1) (mCons (mC (.int 1)) (mCons (mC (.int 3)) mNil)))))) (mNotT (mTr (mCall fAll (mCons (mLc (mSq (mVar 1)) (gN 5) mYes (mCall m_is_source (mCons (mVar 5) mNil)) [5]) mNil))))) (sRet (mC (.bl false))) sNext)
    (sSeq (sSet 4 (mLc (mSq (mVar 1)) (gN 5) mYes (mBin fIx (mVar 5) (mC (.int 0))) [5]))
    (sSeq (sIf (mBl (mBin (fCmp fun i j => decide (i < j)) (mLenSet (mVar 4)) (mCall fLen (mCons (mVar 4) mNil)))) (sRet (mC (.bl false))) sNext)
    (sSeq (sIf (mOrT (mNotT (mTr (mCall m_is_tuple (mCons (mVar 2) (mCons (mC (.int 0)) (mCons (mC (.int 6)) mNil)))))) (mNotT (mTr (mCall fAll (mCons (mLc (mSq (mVar 2)) (gN 6) mYes (mCall m_is_condition (mCons (mVar 6) (mCons (mVar 4) mNil))) [6]) mNil))))) (sRet (mC (.bl false))) sNext)
    (sRet (mAndV (mCall m_is_tuple (mCons (mVar 3) (mCons (mC (.int 1)) (mCons (mC (.int 6)) mNil)))) (mCall fAll (mCons (mLc (mSq (mVar 3)) (gN 7) mYes (mCall m_is_side (mCons (mVar 7) (mCons (mVar 4) mNil))) [7]) mNil))))))))))
def m_is_part : MF := mFn 8 b_is_part
def b_is_query : MS :=
    (sSeq (sIf (mOrT (mNotT (mTr (mCall m_is_tuple (mCons (mVar 0) (mCons (mC (.int 1)) (mCons (mC (.int 4)) mNil)))))) (mNotT (mTr (mCall fAll (mCons (mLc (mSq (mVar 0)) (gN 1) mYes (mCall m_is_part (mCons (mVar 1) mNil)) [1]) mNil))))) (sRet (mC (.bl false))) sNext)
    (sRet (mBin fEq (mLenSc (mSq (mVar 0)) (gN 1) (mCall fLen (mCons (mBin fIx (mVar 1) (mC (.int 2))) mNil)) [1]) (mC (.int 1)))))
def m_is_query : MF := mFn 2 b_is_query
def b_sources_in : MS :=
    (sRet (mTwoC (mSq (mVar 0)) (gN 1) (mSq (mBin fIx (mVar 1) (mC (.int 0)))) (gN 2) (mBin fIx (mVar 2) (mC (.int 1))) [1, 2] [2]))
def m_sources_in : MF := mFn 3 b_sources_in
def b_law_bag : MS :=
    (sRet (mCel (mCons (mC (.int 0)) (mCons (mC (.int 1234567891)) (mCons (mC (.int 0)) (mCons (mLc (mSq (mSl (mVar 0) mNoPart (mPart (mC (.int 63))))) (gN 1) mYes (mCall fAbs (mCons (mVar 1) mNil)) [1]) mNil))))))
def m_law_bag : MF := mFn 2 b_law_bag
def b_law_take : MS :=
    (sSeq (sIf (mBl (mBin fEq (mBin fIx (mVar 0) (mC (.int 0))) (mC (.int 0)))) (sSeq (sSet 2 (mC (.int 0)))
    (sSeq (sIf (mBl (mBin (fCmp fun i j => decide (i < j)) (mBin fIx (mVar 0) (mC (.int 2))) (mCall fLen (mCons (mBin fIx (mVar 0) (mC (.int 3))) mNil)))) (sSet 2 (mBin fIx (mBin fIx (mVar 0) (mC (.int 3))) (mBin fIx (mVar 0) (mC (.int 2))))) sNext)
    (sSeq (sAugIx (mVar 0) (mC (.int 2)) (mC (.int 1)))
    (sSeq (sIf (mBl (mBin (fCmp fun i j => decide (j ≤ i)) (mVar 2) (mC (.int 1000000000000000000)))) (sStIx (mVar 0) (mC (.int 0)) (mVar 2)) sNext)
    (sStIx (mVar 0) (mC (.int 1)) (mBin fMod (mBin fAdd (mBin fAdd (mBin fMul (mBin fIx (mVar 0) (mC (.int 1))) (mC (.int 48271))) (mBin fMod (mVar 2) (mC (.int 2147483647)))) (mBin fMul (mC (.int 7919)) (mBin fIx (mVar 0) (mC (.int 2))))) (mC (.int 2147483647)))))))) sNext)
    (sSeq (sIf (mBl (mBin (fCmp fun i j => decide (j < i)) (mBin fIx (mVar 0) (mC (.int 0))) (mC (.int 0)))) (sSeq (sSet 3 (mBin fMod (mBin fIx (mVar 0) (mC (.int 0))) (mVar 1)))
    (sSeq (sStIx (mVar 0) (mC (.int 0)) (mBin fDiv (mBin fIx (mVar 0) (mC (.int 0))) (mVar 1)))
    (sRet (mVar 3)))) sNext)
    (sSeq (sSet 4 (mBin fMod (mBin fMul (mBin fAdd (mBin fIx (mVar 0) (mC (.int 1))) (mC (.int 1))) (mC (.int 39373))) (mC (.int 1000000007))))
    (sSeq (sSet 5 (mBin fMod (mBin fMul (mBin fMod (mBin fMul (mVar 4) (mVar 4)) (mC (.int 998244353))) (mC (.int 30011))) (mC (.int 998244353))))
    (sSeq (sIf (mBl (mBin (fCmp fun i j => decide (j < i)) (mVar 1) (mC (.int 1000000)))) (sRet (mBin fMod (mBin fAdd (mBin fMul (mVar 5) (mC (.int 1000000007))) (mVar 4)) (mVar 1))) sNext)
    (sRet (mBin fMod (mBin fDiv (mVar 5) (mC (.int 7))) (mVar 1))))))))
def m_law_take : MF := mFn 6 b_law_take
def b_law_alike : MS :=
    (sRet (mAndV (mBin fEq (mVar 0) (mVar 1)) (mBin fEq (mCall fRepr (mCons (mVar 0) mNil)) (mCall fRepr (mCons (mVar 1) mNil)))))
def m_law_alike : MF := mFn 2 b_law_alike
def b_law_names : MS :=
    (sSeq (sSet 2 (mC (.str "abcdefghijklmnopqrstuvwxyz")))
    (sSeq (sSet 3 (mC (.str "schema table view column index int text truth create drop path move rename of call param value none")))
    (sSeq (sSet 3 (mBin fSplit (mBin fAdd (mVar 3) (mC (.str " app old a ab b zz"))) (mC (.str " "))))
    (sSeq (sAsg (gT 2 (gCn (gN 4) (gCn (gN 5) gNl))) (mTup (mCons (mCall m_law_take (mCons (mVar 0) (mCons (mC (.int 4)) mNil))) (mCons (mCall m_law_take (mCons (mVar 0) (mCons (mC (.int 24)) mNil))) mNil))))
    (sSeq (sSet 6 (mBin fJoin (mC (.str "")) (mLc (mRg1 (mBin fAdd (mC (.int 1)) (mCall m_law_take (mCons (mVar 0) (mCons (mC (.int 7)) mNil))))) (gN 8) mYes (mBin fIx (mVar 2) (mCall m_law_take (mCons (mVar 0) (mCons (mC (.int 26)) mNil)))) [8])))
    (sSeq (sSet 7 (mCall m_law_take (mCons (mVar 0) (mCons (mBin fAdd (mCall fLen (mCons (mVar 6) mNil)) (mC (.int 1))) mNil))))
    (sSeq (sIf (mBl (mBin fEq (mVar 4) (mC (.int 0)))) (sRet (mSl (mBin fAdd (mSl (mVar 3) (mPart (mVar 5)) mNoPart) (mSl (mVar 3) mNoPart (mPart (mVar 5)))) mNoPart (mPart (mVar 1)))) sNext)
    (sSeq (sIf (mBl (mBin fEq (mVar 4) (mC (.int 1)))) (sRet (mLc (mRg1 (mVar 1)) (gN 8) mYes (mBin fIx (mVar 2) (mBin fMod (mBin fAdd (mVar 5) (mBin fMul (mC (.int 3)) (mVar 8))) (mC (.int 26)))) [8])) sNext)
    (sRet (mLc (mRg1 (mVar 1)) (gN 8) mYes (mBin fAdd (mBin fAdd (mSl (mVar 6) mNoPart (mPart (mVar 7))) (mBin fIx (mVar 2) (mBin fMod (mBin fAdd (mVar 5) (mBin fMul (mC (.int 3)) (mVar 8))) (mC (.int 26))))) (mSl (mVar 6) (mPart (mVar 7)) mNoPart)) [8]))))))))))
def m_law_names : MF := mFn 9 b_law_names
def b_law_bent (self : MF) : MS :=
    (sSeq (sSet 2 (mLst (mCons (mC .non) (mCons (mC (.bl true)) (mCons (mC (.bl false)) (mCons (mC (.int 0)) (mCons (mC (.int 1)) (mCons (mNeg (mC (.int 1))) (mCons (mC (.str "")) (mCons (mC (.str "A")) (mCons (mC (.str "int")) (mCons (mC (.str "truth")) (mCons (mC (.str "abcdefghi")) (mCons (mC (.str "a b")) (mCons (mLst mNil) (mCons (mC (.dct [] [])) (mCons (mTup mNil) (mCons (mTup (mCons (mC (.str "a")) mNil)) mNil))))))))))))))))))
    (sSeq (sSet 2 (mBin fAdd (mVar 2) (mLst (mCons (mTup (mCons (mC (.str "a")) (mCons (mC (.str "b")) (mCons (mC (.str "c")) mNil)))) (mCons (mBin fAdd (mBin fPow (mC (.int 10)) (mC (.int 18))) (mC (.int 1))) (mCons (mTup (mCons (mC (.str "int")) (mCons (mC (.bl true)) mNil))) (mCons (mTup (mCons (mC (.str "text")) (mCons (mBin fMul (mC (.str "x")) (mC (.int 21))) mNil))) (mCons (mTup (mCons (mC (.str "param")) (mCons (mC (.int 4)) mNil))) (mCons (mTup (mCons (mC (.str "value")) mNil)) mNil)))))))))
    (sSeq (sSet 2 (mBin fAdd (mVar 2) (mLst (mCons (mTup (mCons (mC (.str "column")) (mCons (mC (.str "a")) mNil))) (mCons (mTup (mCons (mC (.str "next")) (mCons (mC (.str "a")) mNil))) mNil)))))
    (sSeq (sSet 3 (mBin fIx (mVar 2) (mCall m_law_take (mCons (mVar 0) (mCons (mC (.int 24)) mNil)))))
    (sSeq (sIf (mOrT (mNotT (mTr (mIsi "tuple" (mVar 1)))) (mBl (mBin fEq (mVar 1) (mTup mNil)))) (sRet (mBin fIx (mLst (mCons (mVar 3) (mCons (mLst (mCons (mVar 1) mNil)) (mCons (mTup (mCons (mVar 1) mNil)) mNil)))) (mCall m_law_take (mCons (mVar 0) (mCons (mC (.int 3)) mNil))))) sNext)
    (sSeq (sPar 4 5 (mCall m_law_take (mCons (mVar 0) (mCons (mC (.int 10)) mNil))) (mCall m_law_take (mCons (mVar 0) (mCons (mCall fLen (mCons (mVar 1) mNil)) mNil))))
    (sSeq (sIf (mBl (mBin fEq (mVar 4) (mC (.int 0)))) (sRet (mBin fAdd (mSl (mVar 1) mNoPart (mPart (mVar 5))) (mSl (mVar 1) (mPart (mBin fAdd (mVar 5) (mC (.int 1)))) mNoPart))) sNext)
    (sSeq (sIf (mBl (mBin fEq (mVar 4) (mC (.int 1)))) (sRet (mBin fAdd (mSl (mVar 1) mNoPart (mPart (mBin fAdd (mVar 5) (mC (.int 1))))) (mSl (mVar 1) (mPart (mVar 5)) mNoPart))) sNext)
    (sSeq (sIf (mBl (mBin fEq (mVar 4) (mC (.int 2)))) (sRet (mCall fLis (mCons (mVar 1) mNil))) sNext)
    (sSeq (sIf (mBl (mBin fEq (mVar 4) (mC (.int 3)))) (sRet (mRev (mVar 1))) sNext)
    (sSeq (sSet 6 (mIf (mBl (mBin fEq (mVar 4) (mC (.int 4)))) (mVar 3) (mCall self (mCons (mVar 0) (mCons (mBin fIx (mVar 1) (mVar 5)) mNil)))))
    (sRet (mBin fAdd (mBin fAdd (mSl (mVar 1) mNoPart (mPart (mVar 5))) (mTup (mCons (mVar 6) mNil))) (mSl (mVar 1) (mPart (mBin fAdd (mVar 5) (mC (.int 1)))) mNoPart))))))))))))))
def m_law_bent : Nat → MF
  | 0 => fun _ _ => none
  | n + 1 => mFn 7 (b_law_bent (m_law_bent n))
def b_law_is_name : MS :=
    (sSeq (sSet 1 (mC (.str "abcdefghijklmnopqrstuvwxyz")))
    (sRet (mAndV (mIsi "str" (mVar 0)) (mAndV (mChn (fCmp fun i j => decide (i ≤ j)) (fCmp fun i j => decide (i ≤ j)) (mC (.int 1)) (mCall fLen (mCons (mVar 0) mNil)) (mC (.int 8))) (mCall fAll (mCons (mLc (mSq (mVar 0)) (gN 2) mYes (mBin (fIn false) (mVar 2) (mVar 1)) [2]) mNil))))))
def m_law_is_name : MF := mFn 3 b_law_is_name
def b_law_is_ref : MS :=
    (sSeq (sIf (mTr (mIsi "tuple" (mVar 0))) (sRet (mAndV (mBin fEq (mCall fLen (mCons (mVar 0) mNil)) (mC (.int 2))) (mAndV (mCall m_law_is_name (mCons (mBin fIx (mVar 0) (mC (.int 0))) mNil)) (mCall m_law_is_name (mCons (mBin fIx (mVar 0) (mC (.int 1))) mNil))))) sNext)
    (sRet (mCall m_law_is_name (mCons (mVar 0) mNil))))
def m_law_is_ref : MF := mFn 1 b_law_is_ref
def b_law_whole : MS :=
    (sRet (mAndV (mIsi "int" (mVar 0)) (mAndV (mNotV (mIsi "bool" (mVar 0))) (mChn (fCmp fun i j => decide (i ≤ j)) (fCmp fun i j => decide (i ≤ j)) (mVar 1) (mVar 0) (mVar 2)))))
def m_law_whole : MF := mFn 3 b_law_whole
def b_law_is_side : MS :=
    (sSeq (sIf (mOrT (mNotT (mTr (mIsi "tuple" (mVar 0)))) (mBl (mBin fEq (mVar 0) (mTup mNil)))) (sRet (mC (.bl false))) sNext)
    (sSeq (sIf (mAndT (mBl (mBin fEq (mCall fLen (mCons (mVar 0) mNil)) (mC (.int 3)))) (mBl (mBin fEq (mBin fIx (mVar 0) (mC (.int 0))) (mC (.str "of"))))) (sRet (mAndV (mCall m_law_is_name (mCons (mBin fIx (mVar 0) (mC (.int 1))) mNil)) (mAndV (mBin fInC (mBin fIx (mVar 0) (mC (.int 1))) (mVar 1)) (mCall m_law_is_name (mCons (mBin fIx (mVar 0) (mC (.int 2))) mNil))))) sNext)
    (sSeq (sIf (mBl (mBin fNe (mCall fLen (mCons (mVar 0) mNil)) (mC (.int 2)))) (sRet (mC (.bl false))) sNext)
    (sSeq (sIf (mBl (mBin fEq (mBin fIx (mVar 0) (mC (.int 0))) (mC (.str "int")))) (sRet (mCall m_law_whole (mCons (mBin fIx (mVar 0) (mC (.int 1))) (mCons (mNeg (mBin fPow (mC (.int 10)) (mC (.int 18)))) (mCons (mBin fPow (mC (.int 10)) (mC (.int 18))) mNil))))) sNext)
    (sRet (mAndV (mBin fEq (mBin fIx (mVar 0) (mC (.int 0))) (mC (.str "text"))) (mAndV (mIsi "str" (mBin fIx (mVar 0) (mC (.int 1)))) (mBin (fCmp fun i j => decide (i ≤ j)) (mCall fLen (mCons (mBin fIx (mVar 0) (mC (.int 1))) mNil)) (mC (.int 20))))))))))
def m_law_is_side : MF := mFn 2 b_law_is_side
def b_law_is_part : MS :=
    (sSeq (sIf (mOrT (mNotT (mTr (mIsi "tuple" (mVar 0)))) (mOrT (mBl (mBin fNe (mCall fLen (mCons (mVar 0) mNil)) (mC (.int 3)))) (mNotT (mTr (mCall fAll (mCons (mLc (mSq (mVar 0)) (gN 7) mYes (mIsi "tuple" (mVar 7)) [7]) mNil)))))) (sRet (mC (.bl false))) sNext)
    (sSeq (sAsg (gT 3 (gCn (gN 1) (gCn (gN 2) (gCn (gN 3) gNl)))) (mVar 0))
    (sSeq (sSet 4 (mCel mNil))
    (sSeq (sFor (mSq (mVar 1)) (gN 5) (sSeq (sIf (mOrT (mNotT (mTr (mIsi "tuple" (mVar 5)))) (mOrT (mBl (mBin fNe (mCall fLen (mCons (mVar 5) mNil)) (mC (.int 2)))) (mNotT (mTr (mCall m_law_is_name (mCons (mBin fIx (mVar 5) (mC (.int 0))) mNil)))))) (sRet (mC (.bl false))) sNext)
    (sSeq (sIf (mOrT (mBl (mBin fInC (mBin fIx (mVar 5) (mC (.int 0))) (mVar 4))) (mNotT (mTr (mCall m_law_is_ref (mCons (mBin fIx (mVar 5) (mC (.int 1))) mNil))))) (sRet (mC (.bl false))) sNext)
    (sDrop (mApp (mVar 4) (mBin fIx (mVar 5) (mC (.int 0))))))))
    (sSeq (sIf (mOrT (mNotT (mBl (mChn (fCmp fun i j => decide (i ≤ j)) (fCmp fun i j => decide (i ≤ j)) (mC (.int 1)) (mCall fLen (mCons (mVar 1) mNil)) (mC (.int 3))))) (mOrT (mBl (mBin (fCmp fun i j => decide (j < i)) (mCall fLen (mCons (mVar 2) mNil)) (mC (.int 6)))) (mNotT (mBl (mChn (fCmp fun i j => decide (i ≤ j)) (fCmp fun i j => decide (i ≤ j)) (mC (.int 1)) (mCall fLen (mCons (mVar 3) mNil)) (mC (.int 6))))))) (sRet (mC (.bl false))) sNext)
    (sSeq (sFor (mSq (mVar 2)) (gN 6) (sSeq (sIf (mOrT (mNotT (mTr (mIsi "tuple" (mVar 6)))) (mOrT (mBl (mBin fNe (mCall fLen (mCons (mVar 6) mNil)) (mC (.int 2)))) (mNotT (mTr (mCall fAll (mCons (mLc (mSq (mVar 6)) (gN 8) mYes (mCall m_law_is_side (mCons (mVar 8) (mCons (mVar 4) mNil))) [8]) mNil)))))) (sRet (mC (.bl false))) sNext)
    (sIf (mBl (mBin fNe (mBin fIx (mBin fIx (mVar 6) (mC (.int 0))) (mC (.int 0))) (mC (.str "of")))) (sRet (mC (.bl false))) sNext)))
    (sRet (mCall fAll (mCons (mLc (mSq (mVar 3)) (gN 8) mYes (mCall m_law_is_side (mCons (mVar 8) (mCons (mVar 4) mNil))) [8]) mNil)))))))))
def m_law_is_part : MF := mFn 9 b_law_is_part
def b_law_is_query : MS :=
    (sSeq (sIf (mOrT (mNotT (mTr (mIsi "tuple" (mVar 0)))) (mOrT (mNotT (mBl (mChn (fCmp fun i j => decide (i ≤ j)) (fCmp fun i j => decide (i ≤ j)) (mC (.int 1)) (mCall fLen (mCons (mVar 0) mNil)) (mC (.int 4))))) (mNotT (mTr (mCall fAll (mCons (mLc (mSq (mVar 0)) (gN 1) mYes (mCall m_law_is_part (mCons (mVar 1) mNil)) [1]) mNil)))))) (sRet (mC (.bl false))) sNext)
    (sRet (mBin (fLE false) (mLc (mSq (mVar 0)) (gN 1) (mBl (mBin fNe (mCall fLen (mCons (mBin fIx (mVar 1) (mC (.int 2))) mNil)) (mCall fLen (mCons (mBin fIx (mBin fIx (mVar 0) (mC (.int 0))) (mC (.int 2))) mNil)))) (mVar 1) [1]) (mLst mNil))))
def m_law_is_query : MF := mFn 2 b_law_is_query
def b_law_ref : MS :=
    (sSeq (sAsg (gU 2 (gCn (gN 2) (gCn (gN 3) gNl))) (mLc (mRg1 (mC (.int 2))) (gN 4) mYes (mBin fIx (mVar 1) (mCall m_law_take (mCons (mVar 0) (mCons (mCall fLen (mCons (mVar 1) mNil)) mNil)))) [4]))
    (sRet (mBin fIx (mLst (mCons (mVar 2) (mCons (mTup (mCons (mVar 2) (mCons (mVar 3) mNil))) mNil))) (mCall m_law_take (mCons (mVar 0) (mCons (mC (.int 2)) mNil))))))
def m_law_ref : MF := mFn 5 b_law_ref
def b_law_some_side : MS :=
    (sSeq (sSet 3 (mTup (mCons (mC (.str "of")) (mCons (mBin fIx (mVar 2) (mCall m_law_take (mCons (mVar 0) (mCons (mCall fLen (mCons (mVar 2) mNil)) mNil)))) (mCons (mBin fIx (mVar 1) (mCall m_law_take (mCons (mVar 0) (mCons (mCall fLen (mCons (mVar 1) mNil)) mNil)))) mNil)))))
    (sSeq (sSet 4 (mLst (mCons (mTup (mCons (mC (.str "int")) (mCons (mCall m_law_take (mCons (mVar 0) (mCons (mC (.int 9)) mNil))) mNil))) (mCons (mTup (mCons (mC (.str "text")) (mCons (mC (.str "a b")) mNil))) (mCons (mTup (mCons (mC (.str "int")) (mCons (mNeg (mBin fPow (mC (.int 10)) (mC (.int 18)))) mNil))) (mCons (mTup (mCons (mC (.str "text")) (mCons (mBin fMul (mC (.str "x")) (mC (.int 20))) mNil))) mNil))))))
    (sSeq (sIf (mBl (mBin fEq (mCall m_law_take (mCons (mVar 0) (mCons (mC (.int 8)) mNil))) (mC (.int 0)))) (sSet 4 (mLst (mCons (mTup (mCons (mC (.str "int")) (mCons (mBin fPow (mC (.int 10)) (mC (.int 18))) mNil))) (mCons (mTup (mCons (mC (.str "int")) (mCons (mBin fAdd (mBin fPow (mC (.int 10)) (mC (.int 18))) (mC (.int 1))) mNil))) (mCons (mTup (mCons (mC (.str "int")) (mCons (mBin fSub (mNeg (mBin fPow (mC (.int 10)) (mC (.int 18)))) (mC (.int 1))) mNil))) (mCons (mTup (mCons (mC (.str "text")) (mCons (mBin fMul (mC (.str "x")) (mC (.int 21))) mNil))) mNil)))))) sNext)
    (sRet (mBin fIx (mLst (mCons (mVar 3) (mCons (mVar 3) (mCons (mBin fIx (mVar 4) (mCall m_law_take (mCons (mVar 0) (mCons (mC (.int 4)) mNil)))) mNil)))) (mCall m_law_take (mCons (mVar 0) (mCons (mC (.int 3)) mNil))))))))
def m_law_some_side : MF := mFn 5 b_law_some_side
def b_law_some_part : MS :=
    (sSeq (sSet 3 (mCall m_law_take (mCons (mVar 0) (mCons (mCall fLen (mCons (mVar 1) mNil)) mNil))))
    (sSeq (sSet 4 (mSl (mBin fAdd (mSl (mVar 1) (mPart (mVar 3)) mNoPart) (mSl (mVar 1) mNoPart (mPart (mVar 3)))) mNoPart (mPart (mBin fIx (mLst (mCons (mC (.int 1)) (mCons (mC (.int 2)) (mCons (mC (.int 3)) (mCons (mC (.int 3)) (mCons (mC (.int 3)) (mCons (mC (.int 4)) mNil))))))) (mCall m_law_take (mCons (mVar 0) (mCons (mC (.int 6)) mNil)))))))
    (sSeq (sSet 5 (mCall fTup (mCons (mLc (mSq (mVar 4)) (gN 9) mYes (mTup (mCons (mVar 9) (mCons (mCall m_law_ref (mCons (mVar 0) (mCons (mVar 1) mNil))) mNil))) [9]) mNil)))
    (sSeq (sSet 6 (mCel mNil))
    (sSeq (sFor (mRg1 (mBin fIx (mLst (mCons (mCall m_law_take (mCons (mVar 0) (mCons (mC (.int 3)) mNil))) (mCons (mCall m_law_take (mCons (mVar 0) (mCons (mC (.int 8)) mNil))) mNil))) (mCall m_law_take (mCons (mVar 0) (mCons (mC (.int 2)) mNil))))) (gN 7) (sSeq (sSet 8 (mTup (mCons (mC (.str "of")) (mCons (mBin fIx (mVar 4) (mCall m_law_take (mCons (mVar 0) (mCons (mCall fLen (mCons (mVar 4) mNil)) mNil)))) (mCons (mBin fIx (mVar 1) (mCall m_law_take (mCons (mVar 0) (mCons (mCall fLen (mCons (mVar 1) mNil)) mNil)))) mNil)))))
    (sDrop (mApp (mVar 6) (mTup (mCons (mVar 8) (mCons (mCall m_law_some_side (mCons (mVar 0) (mCons (mVar 1) (mCons (mVar 4) mNil)))) mNil)))))))
    (sRet (mTup (mCons (mVar 5) (mCons (mCall fTup (mCons (mVar 6) mNil)) (mCons (mCall fTup (mCons (mLc (mRg1 (mVar 2)) (gN 7) mYes (mCall m_law_some_side (mCons (mVar 0) (mCons (mVar 1) (mCons (mVar 4) mNil)))) [7]) mNil)) mNil))))))))))
def m_law_some_part : MF := mFn 10 b_law_some_part
def b_law_sources : MS :=
    (sSeq (sSet 1 (mLst mNil))
    (sSeq (sFor (mSq (mVar 0)) (gN 2) (sSet 1 (mBin fAdd (mVar 1) (mLc (mSq (mBin fIx (mVar 2) (mC (.int 0)))) (gT 2 (gCn (gN 3) (gCn (gN 4) gNl))) (mBl (mBin (fIn true) (mVar 4) (mVar 1))) (mVar 4) [3, 4]))))
    (sRet (mLc (mEn (mVar 1)) (gT 2 (gCn (gN 5) (gCn (gN 4) gNl))) (mBl (mBin (fIn true) (mVar 4) (mSl (mVar 1) mNoPart (mPart (mVar 5))))) (mVar 4) [5, 4]))))
def m_law_sources : MF := mFn 6 b_law_sources
def b_law : MS :=
    (sSeq (sSet 1 (mCall m_law_bag (mCons (mVar 0) mNil)))
    (sSeq (sFor (mRg1 (mC (.int 8))) (gN 2) (sSeq (sSet 3 (mCall m_law_names (mCons (mVar 1) (mCons (mBin fAdd (mC (.int 4)) (mCall m_law_take (mCons (mVar 1) (mCons (mC (.int 3)) mNil)))) mNil))))
    (sSeq (sSet 4 (mBin fIx (mLst (mCons (mBin fAdd (mC (.int 1)) (mCall m_law_take (mCons (mVar 1) (mCons (mC (.int 3)) mNil)))) (mCons (mBin fAdd (mC (.int 1)) (mCall m_law_take (mCons (mVar 1) (mCons (mC (.int 7)) mNil)))) mNil))) (mCall m_law_take (mCons (mVar 1) (mCons (mC (.int 2)) mNil)))))
    (sSeq (sSet 5 (mCall fTup (mCons (mLc (mRg1 (mBin fAdd (mC (.int 1)) (mCall m_law_take (mCons (mVar 1) (mCons (mBin fIx (mLst (mCons (mC (.int 2)) (mCons (mC (.int 5)) mNil))) (mCall m_law_take (mCons (mVar 1) (mCons (mC (.int 2)) mNil)))) mNil))))) (gN 12) mYes (mCall m_law_some_part (mCons (mVar 1) (mCons (mVar 3) (mCons (mVar 4) mNil)))) [12]) mNil)))
    (sSeq (sSet 6 (mCall (m_law_bent 12) (mCons (mVar 1) (mCons (mVar 5) mNil))))
    (sSeq (sSet 7 (mBin fIx (mLst (mCons (mC .non) (mCons (mTup mNil) (mCons (mLst mNil) (mCons (mC (.dct [] [])) (mCons (mC (.str "")) (mCons (mC (.int 5)) (mCons (mC (.bl true)) (mCons (mTup (mCons (mVar 5) mNil)) (mCons (mCall fLis (mCons (mVar 5) mNil)) mNil)))))))))) (mCall m_law_take (mCons (mVar 1) (mCons (mC (.int 9)) mNil)))))
    (sSeq (sIf (mBl (mBin fEq (mCall m_law_take (mCons (mVar 1) (mCons (mC (.int 4)) mNil))) (mC (.int 0)))) (sSet 7 (mBin fAdd (mVar 5) (mTup (mCons (mCall m_law_some_part (mCons (mVar 1) (mCons (mVar 3) (mCons (mBin fAdd (mVar 4) (mC (.int 1))) mNil)))) mNil)))) sNext)
    (sSeq (sFor (mSq (mTup (mCons (mVar 5) (mCons (mVar 6) (mCons (mCall (m_law_bent 12) (mCons (mVar 1) (mCons (mVar 6) mNil))) (mCons (mVar 7) (mCons (mVar 5) mNil))))))) (gN 8) (sSeq (sSet 9 (mCall fRepr (mCons (mVar 8) mNil)))
    (sFor (mRg1 (mC (.int 2))) (gN 10) (sIf (mOrT (mNotT (mTr (mCall m_law_alike (mCons (mCall m_is_query (mCons (mVar 8) mNil)) (mCons (mCall m_law_is_query (mCons (mVar 8) mNil)) mNil))))) (mBl (mBin fNe (mCall fRepr (mCons (mVar 8) mNil)) (mVar 9)))) (sRet (mC (.bl false))) sNext))))
    (sIf (mTr (mCall m_law_is_query (mCons (mVar 5) mNil))) (sFor (mRg1 (mC (.int 2))) (gN 10) (sSeq (sSet 11 (mCall m_sources_in (mCons (mVar 5) mNil)))
    (sSeq (sIf (mNotT (mTr (mCall m_law_alike (mCons (mVar 11) (mCons (mCall m_law_sources (mCons (mVar 5) mNil)) mNil))))) (sRet (mC (.bl false))) sNext)
    (sDrop (mApp (mVar 11) (mC (.str "zz"))))))) sNext)))))))))
    (sRet (mC (.bl true)))))
def m_law : MF := mFn 13 b_law
end LAW
/-! K20A -/
namespace LAW
open PySem PySem.Spec PyProof.Rows L2 DL SH SW SX
local macro_rules | `(tactic| walk_at "sw") => `(tactic| simp only [we_var, we_c, we_bin, we_call, wa_nil, wa_cons, we_tup, we_lst, we_cel, we_dic, we_neg, wo_np, wo_pt, we_sl, we_isi, we_st0, we_din, we_dix, we_andV, we_orV, we_notV, we_if, we_chn, we_get2, wt_bl, wt_tr, wt_not, wt_and, wt_or, wt_yes, ws_next, ws_seq, ws_ret, ws_drop, ws_set, ws_if, ws_brk, ws_cnt, ws_asg, ws_par, ws_aug, wf_fn, wa_sq, wa_rg, wr_nil, wr_cons, we_app, we_ext, we_pop, on_some, intOf_int, strOf_str, blOf_bl, nx_nx, nx_rt, nx_bk, nx_ct, rt_rt, rt_nx, tn_nx, tn_ct, tn_bk, tn_rt, at_zero, at_succ, wipe_nil, wipe_cons, on_gN, on_gT, on_gNl, on_gCn, wb_addI, wb_addS, wb_addL, wb_addT, wb_subI, wb_mulI, wb_mulL, wb_mulS, wb_mulT, wb_mod, wb_div, wb_pow, wb_cmp, wb_eqI, wb_eqS, wb_eqB, wb_neI, wb_neS, wb_isN, wb_ixT0, wb_ixT1, wb_ixT2, wb_ixL0, wb_ixL1, wb_ixL2, wf_lenT, wf_lenL, wf_lenS, wf_intI, wf_intB, wf_tupL, wf_tupT, wf_lisT, wf_lisL, wf_min, slT, slL, slS, on_trB, on_trT, on_trL, itT, itL, itS, cut1, List.set_cons_zero, List.set_cons_succ, List.map_cons, List.map_nil, List.length_cons, List.length_nil, Nat.reduceAdd, Nat.reduceSub, List.replicate_succ, List.replicate_zero, List.cons_append, List.nil_append, List.append_nil, if_true, if_false, Bool.false_eq_true, Bool.not_true, Bool.not_false, List.getElem?_cons_zero, List.getElem?_cons_succ, List.drop_succ_cons, List.drop_zero, isOf_non, isOf_bl, isOf_int, isOf_str, isOf_tup, isOf_lst, isOf_rol, isOf_dct, isA, String.reduceBEq, Bool.or_self, Bool.false_or, Bool.or_false, Bool.and_false, Bool.false_and, Bool.and_true, Bool.true_and, Bool.true_or, Bool.or_true, Bool.and_self, ofs_beq, cast0, cast1, cast2, cast3, cast4, cast5, beq_self_eq_true, Int.reduceLE, Int.reduceLT, Int.reduceAdd, Int.reduceSub, Int.reduceNeg, decide_true, decide_false, we_lc, we_lcC, ws_for, abs10, getO_str, Nat.reduceLT])
variable {S : Sto} {Q : D → Sto → Prop} {d : D} {al : List Str} {n : Nat} {m1 : ME} {ρ : Env'}
theorem p_query (a : Any d) : m_is_query [d] S = some (.bl (qryAny d), S) := SX.is_query a
theorem l_name (a : Any d) : m_law_is_name [d] S = some (.bl (nmAny d), S) := by
  refine wf_eq ?_
  unfold m_law_is_name b_law_is_name
  cases d <;> try (walk_at "sw"; simp [nmAny]; done)
  · rename_i s
    have hl := a.slen
    walk_at "sw"
    refine ⟨hl, ?_⟩
    have hz : (s.cps.toList.map fun c => D.str ⟨#[c]⟩).length ≤ 1000000 := by
      rw [List.length_map, Array.length_toList]
      exact hl
    by_cases h1 : 1 ≤ (s.length : Int)
    · rw [if_pos (by simpa using h1)]
      by_cases h8 : (s.length : Int) ≤ 8
      · rw [if_pos (by simpa using h8)]
        refine ⟨hl, hz, wl_pure (f := fun d => .bl (sgn d)) (fun d hd => ?_) ?_⟩
        · obtain ⟨c, _, rfl⟩ := List.mem_map.mp hd
          walk_at "sw"
          rw [wb_is (sign_in c)]
          simp [sgn]
        · rw [List.map_map]
          have e : (fun d => D.bl (sgn d)) ∘ (fun c : Nat => D.str ⟨#[c]⟩) = fun c => D.bl (LetB c) := by
            funext c
            simp [sgn]
          rw [e, wf_is fAll_map]
          have : nmB s = s.cps.toList.all LetB := by
            unfold nmB
            rw [decide_eq_true (p := 1 ≤ s.length) (by omega), decide_eq_true (p := s.length ≤ 8) (by omega), Bool.true_and, Bool.true_and]
          simp [nmAny, this]
      · rw [if_neg (by simpa using h8)]
        have : nmB s = false := by
          unfold nmB
          rw [decide_eq_false (p := s.length ≤ 8) (by omega), Bool.and_false, Bool.false_and]
        simp [nmAny, this]
    · rw [if_neg (by simpa using h1)]
      have : nmB s = false := by
        unfold nmB
        rw [decide_eq_false (p := 1 ≤ s.length) (by omega), Bool.false_and, Bool.false_and]
      simp [nmAny, this]
  · have := a.full
    simp [D.full] at this
theorem l_isref (a : Any d) : m_law_is_ref [d] S = some (.bl (refAny d), S) := by
  refine wf_eq ?_
  unfold m_law_is_ref b_law_is_ref
  cases d <;> try (walk_at "sw"; rw [wf_is (l_name a)]; simp [refAny]; done)
  · rename_i xs
    walk_at "sw"
    match xs, a with
    | [], _ => simp [refAny]
    | [x], _ => simp [refAny]
    | [x, y], a =>
      walk_at "sw"
      rw [wf_is (l_name (a.item x (by simp)))]
      walk_at "sw"
      rw [wf_is (l_name (a.item y (by simp)))]
      cases hx : nmAny x <;> cases hy : nmAny y <;> simp [refAny, hx, hy]
    | x :: y :: z :: r, _ =>
      have : ¬ (((r.length : Nat) : Int) + 1 + 1 + 1 = 2) := by omega
      simp [refAny, this]
  · have := a.full
    simp [D.full] at this
theorem l_alike {x : Bool} : m_law_alike [.bl x, .bl x] S = some (.bl true, S) := SX.alike_bl
def whB (lo hi : Int) : D → Bool
  | .int i => decide (lo ≤ i) && decide (i ≤ hi)
  | _ => false
theorem law_whole {lo hi : Int} (a : Any d) : m_law_whole [d, .int lo, .int hi] S = some (.bl (whB lo hi d), S) := by
  refine wf_eq ?_
  unfold m_law_whole b_law_whole
  cases d <;> try (walk_at "sw"; simp [whB]; done)
  · rename_i i
    walk_at "sw"
    by_cases h : lo ≤ i <;> simp [whB, h]
  · have := a.full
    simp [D.full] at this
theorem p18 : (10 : Int) ^ Int.toNat 18 = 1000000000000000000 := by decide
theorem wb_inC {c : List D} (e : S[n]? = some (some c)) (hd : d.scal = true) (hc : c.all D.scal = true) : WB fInC d (.loc n) S Q ↔ Q (.bl (c.any fun z => eqS z d)) S := wb_is (by
  unfold fInC
  simp only [e]
  rw [if_pos ⟨hd, hc⟩])
theorem any_eqS {y : Str} : ∀ al : List Str, ((al.map D.str).any fun z => eqS z (.str y)) = al.any fun w => isK w (.str y)
  | [] => rfl
  | a :: al => by
    rw [List.map_cons, List.any_cons, List.any_cons, any_eqS al]
    have : eqS (.str a) (.str y) = isK a (.str y) := sbeq
    rw [this]
theorem wb_inA {d : D} (e : S[n]? = some (some (al.map D.str))) (hd : nmAny d = true) : WB fInC d (.loc n) S Q ↔ Q (.bl (al.any fun w => isK w d)) S := by
  cases d <;> try (cases hd; done)
  rw [wb_inC e rfl (all_scalS al), any_eqS]
theorem nm_of : nmAny (.str "of") = true := by decide +kernel
theorem isk_of {x : D} (h : isK "of" x = true) : x = .str "of" := by
  cases x <;> first | (cases h; done) | (have h : (_ == _) = true := h; rw [beq_iff_eq] at h; rw [h])
theorem l_side (e : S[n]? = some (some (al.map D.str))) (a : Any d) : m_law_is_side [d, .loc n] S = some (.bl (sideAny al d), S) := by
  refine wf_eq ?_
  unfold m_law_is_side b_law_is_side
  cases d <;> try (walk_at "sw"; simp [sideAny, fldAny, th, conAny]; done)
  · rename_i xs
    walk_at "sw"
    refine ⟨by decide, ?_⟩
    rw [wb_eqE a.full]
    try walk_at "sw"
    match xs, a with
    | [], _ => simp [sideAny, fldAny, th, conAny]
    | [x], _ => cases x <;> simp [sideAny, fldAny, th, conAny]
    | [x, y], a =>
      have ax := a.item x (by simp)
      have ay := a.item y (by simp)
      have es : sideAny al (.tup [x, y]) = conAny (.tup [x, y]) := by simp [sideAny, fldAny, th]
      rw [es, if_neg (by simp)]
      walk_at "sw"
      rw [if_neg (show ¬ (((2 : Int) == 3) = true) by decide), wb_eqK ax.full]
      try walk_at "sw"
      generalize h1 : isK "int" x = b1
      cases b1 with
      | true =>
        rw [if_pos rfl]
        refine ⟨⟨trivial, trivial, by decide⟩, ⟨trivial, trivial, by decide⟩, ?_⟩
        rw [p18, wf_is (law_whole ay)]
        cases x <;> try (cases h1; done)
        rename_i s
        have h1 : (s == "int") = true := h1
        rw [beq_iff_eq] at h1
        subst h1
        cases y <;> simp [whB, conAny]
      | false =>
        rw [if_neg (by simp), wb_eqK ax.full]
        walk_at "sw"
        generalize h2 : isK "text" x = b2
        cases b2 with
        | false =>
          cases x <;> try (simp [conAny]; done)
          rename_i s
          have h1 : (s == "int") = false := h1
          have h2 : (s == "text") = false := h2
          rw [beq_eq_false_iff_ne] at h1
          simp [conAny, h1, h2]
        | true =>
          rw [if_pos rfl]
          cases x <;> try (cases h2; done)
          rename_i s
          have h2 : (s == "text") = true := h2
          rw [beq_iff_eq] at h2
          subst h2
          cases y <;> try (walk_at "sw"; simp [conAny, ofs_eq]; done)
          · have := ay.slen
            walk_at "sw"
            simp [conAny, ofs_eq, this]
            omega
          · have := ay.full
            simp [D.full] at this
    | [x, y, z], a =>
      have ax := a.item x (by simp)
      have ay := a.item y (by simp)
      have az := a.item z (by simp)
      have es : sideAny al (.tup [x, y, z]) = ((nmAny x && (nmAny y && nmAny z)) && (isK "of" x && al.any fun w => isK w y)) := by simp [sideAny, fldAny, th, conAny]
      rw [es, if_neg (by simp)]
      walk_at "sw"
      rw [wb_eqK ax.full]
      walk_at "sw"
      cases h1 : isK "of" x with
      | false => simp
      | true =>
        have hx := isk_of h1
        subst hx
        rw [if_pos rfl, wf_is (l_name ay), nm_of]
        walk_at "sw"
        cases hy : nmAny y with
        | false => simp
        | true =>
          rw [if_pos rfl, wb_inA e hy]
          walk_at "sw"
          cases al.any fun w => isK w y with
          | false => simp
          | true =>
            rw [if_pos rfl, wf_is (l_name az)]
            simp
    | x :: y :: z :: u :: r, a =>
      have h3 : (((x :: y :: z :: u :: r).length : Nat) : Int) ≠ 3 := by simp only [List.length_cons]; omega
      have h2 : (((x :: y :: z :: u :: r).length : Nat) : Int) ≠ 2 := by simp only [List.length_cons]; omega
      simp only [List.length_cons] at h2 h3
      have es : sideAny al (.tup (x :: y :: z :: u :: r)) = false := by
        cases x <;> rfl
      rw [es, if_neg (by simp)]
      simp only [List.length_cons]
      rw [if_neg (by simpa using h3), if_pos (by simpa using h2)]
      simp
  · have := a.full
    simp [D.full] at this
variable {QA : List D → Sto → Prop}
def isT : D → Bool
  | .tup _ => true
  | _ => false
theorem wb_le {neg : Bool} {xs : List D} : WB (fLE neg) (.lst xs) (.lst []) S Q ↔ Q (.bl (if neg then !xs.isEmpty else xs.isEmpty)) S := wb_is rfl
def rowOf : D → Option (List D)
  | .tup xs => some xs
  | .lst xs => some xs
  | _ => none
theorem wa_en : WA (mEn m1) ρ S QA ↔ SW.WE m1 ρ S fun d S1 => On (rowOf d) fun ds => QA (numb 0 ds) S1 := by
  unfold WA mEn SW.WE
  simp only [bind_iff]
  refine exists_congr fun x => exists_congr fun S1 => and_congr_right fun _ => ?_
  cases x <;> first | (simp only [rowOf, on_some]; exact some_iff) | (simp [rowOf, On]; done)
/-! a row without a text that stands twice -/
def fresh : List Str → List Str → Bool
  | _, [] => true
  | pre, x :: suf => !(decide (x ∈ pre)) && fresh (pre ++ [x]) suf
theorem unl_grow : ∀ (suf pre : List Str), unl (pre ++ suf) (pre ++ suf).length ≤ unl pre pre.length + suf.length
  | [], pre => by rw [List.append_nil, List.length_nil]; exact Nat.le_refl _
  | x :: suf, pre => by
    have h := unl_grow suf (pre ++ [x])
    have e : pre ++ x :: suf = (pre ++ [x]) ++ suf := by simp
    rw [e, List.length_cons]
    rw [unl_snoc] at h
    split at h <;> omega
theorem fresh_unl : ∀ (suf pre : List Str), unl pre pre.length = pre.length → fresh pre suf = decide (unl (pre ++ suf) (pre ++ suf).length = (pre ++ suf).length)
  | [], pre, h => by
    rw [List.append_nil, decide_eq_true h]
    rfl
  | x :: suf, pre, h => by
    have e : pre ++ x :: suf = (pre ++ [x]) ++ suf := by simp
    have s := unl_snoc (xs := pre) (y := x)
    unfold fresh
    by_cases hx : x ∈ pre
    · rw [if_pos (decide_eq_true hx)] at s
      have g := unl_grow suf (pre ++ [x])
      rw [decide_eq_true hx, e, decide_eq_false]
      · rfl
      · rw [List.length_append, List.length_append, List.length_singleton]
        rw [s, h] at g
        rw [List.length_append, List.length_append, List.length_singleton] at g
        omega
    · rw [if_neg (by simpa using hx)] at s
      rw [decide_eq_false hx, Bool.not_false, Bool.true_and, e]
      exact fresh_unl suf (pre ++ [x]) (by rw [s, h, List.length_append, List.length_singleton])
theorem fresh_len (ns : List Str) : fresh [] ns = ((unl ns ns.length : Int) == ns.length) := by
  rw [fresh_unl ns [] rfl, List.nil_append]
  rw [Bool.eq_iff_iff, decide_eq_true_eq, beq_iff_eq]
  omega
theorem isK_any {x : Str} {pre : List Str} : (pre.any fun z => isK z (.str x)) = decide (x ∈ pre) := by
  rw [Bool.eq_iff_iff, List.any_eq_true, decide_eq_true_eq]
  constructor
  · rintro ⟨z, hz, e⟩
    have e : (x == z) = true := e
    rw [beq_iff_eq] at e
    rw [e]
    exact hz
  · intro h
    exact ⟨x, h, by show (x == x) = true; simp⟩
theorem notT (h : isT d = false) : ∀ xs, d ≠ .tup xs := fun xs e => by
  subst e
  cases h
theorem th_len {xs : List D} (h : tupB 3 3 (.tup xs) = false) : xs.length ≠ 3 := fun e => by
  have h : (decide ((3 : Int) ≤ (xs.length : Int)) && decide ((xs.length : Int) ≤ 3)) = false := h
  rw [e] at h
  simp at h
theorem tw_len {xs : List D} (h : tupB 2 2 (.tup xs) = false) : xs.length ≠ 2 := fun e => by
  have h : (decide ((2 : Int) ≤ (xs.length : Int)) && decide ((xs.length : Int) ≤ 2)) = false := h
  rw [e] at h
  simp at h
theorem tup_at {d : D} (h : isT d = true) : ∃ xs, d = .tup xs := by
  cases d <;> first | exact ⟨_, rfl⟩ | cases h
theorem all_no {lo hi : Int} {f : D → Bool} (h : isT d = false) : allOf lo hi f d = false := by
  cases d <;> first | rfl | cases h
theorem all_in {lo hi : Int} {f : D → Bool} {xs : List D} : allOf lo hi f (.tup xs) = ((decide (lo ≤ (xs.length : Int)) && decide ((xs.length : Int) ≤ hi)) && xs.all f) := rfl
end LAW
/-! K20B -/
namespace LAW
open PySem PySem.Spec PyProof.Rows L2 DL SH SW SX
local macro_rules | `(tactic| walk_at "sw") => `(tactic| simp only [we_var, we_c, we_bin, we_call, wa_nil, wa_cons, we_tup, we_lst, we_cel, we_dic, we_neg, wo_np, wo_pt, we_sl, we_isi, we_st0, we_din, we_dix, we_andV, we_orV, we_notV, we_if, we_chn, we_get2, wt_bl, wt_tr, wt_not, wt_and, wt_or, wt_yes, ws_next, ws_seq, ws_ret, ws_drop, ws_set, ws_if, ws_brk, ws_cnt, ws_asg, ws_par, ws_aug, wf_fn, wa_sq, wa_rg, wr_nil, wr_cons, we_app, we_ext, we_pop, on_some, intOf_int, strOf_str, blOf_bl, nx_nx, nx_rt, nx_bk, nx_ct, rt_rt, rt_nx, tn_nx, tn_ct, tn_bk, tn_rt, at_zero, at_succ, wipe_nil, wipe_cons, on_gN, on_gT, on_gNl, on_gCn, wb_addI, wb_addS, wb_addL, wb_addT, wb_subI, wb_mulI, wb_mulL, wb_mulS, wb_mulT, wb_mod, wb_div, wb_pow, wb_cmp, wb_eqI, wb_eqS, wb_eqB, wb_neI, wb_neS, wb_isN, wb_ixT0, wb_ixT1, wb_ixT2, wb_ixL0, wb_ixL1, wb_ixL2, wf_lenT, wf_lenL, wf_lenS, wf_intI, wf_intB, wf_tupL, wf_tupT, wf_lisT, wf_lisL, wf_min, slT, slL, slS, on_trB, on_trT, on_trL, itT, itL, itS, cut1, List.set_cons_zero, List.set_cons_succ, List.map_cons, List.map_nil, List.length_cons, List.length_nil, Nat.reduceAdd, Nat.reduceSub, List.replicate_succ, List.replicate_zero, List.cons_append, List.nil_append, List.append_nil, if_true, if_false, Bool.false_eq_true, Bool.not_true, Bool.not_false, List.getElem?_cons_zero, List.getElem?_cons_succ, List.drop_succ_cons, List.drop_zero, isOf_non, isOf_bl, isOf_int, isOf_str, isOf_tup, isOf_lst, isOf_rol, isOf_dct, isA, String.reduceBEq, Bool.or_self, Bool.false_or, Bool.or_false, Bool.and_false, Bool.false_and, Bool.and_true, Bool.true_and, Bool.true_or, Bool.or_true, Bool.and_self, ofs_beq, cast0, cast1, cast2, cast3, cast4, cast5, beq_self_eq_true, Int.reduceLE, Int.reduceLT, Int.reduceAdd, Int.reduceSub, Int.reduceNeg, decide_true, decide_false, we_lc, we_lcC, ws_for, abs10, getO_str, Nat.reduceLT])
variable {S : Sto} {Q : D → Sto → Prop} {QS : Fl → Sto → Prop} {d : D} {al : List Str} {n : Nat} {m1 : ME} {ρ : Env'} {o0 o1 o2 o3 o5 o6 : Option D}
theorem at_last {c : Option (List D)} : (S ++ [c])[S.length]? = some c := by simp
theorem cell_last {c : List D} : cellAt (.loc S.length) (S ++ [some c]) = some (S.length, c) := by
  unfold cellAt
  simp
theorem set_last {c c' : Option (List D)} : (S ++ [c]).set S.length c' = S ++ [c'] := by
  rw [List.set_append_right _ _ (Nat.le_refl _), Nat.sub_self]
  rfl
theorem l_srcs : ∀ (ss : List D) (pre : List Str) {o5 : Option D} {QS : Fl → Sto → Prop}, (∀ x ∈ ss, Any x) → pre.length + ss.length ≤ 1000000 →
    ((ss.all srcAny && fresh pre (ss.map aliOf)) = true → ∀ o5', QS (.nx [o0, o1, o2, o3, some (.loc S.length), o5', none, none, none]) (S ++ [some ((pre ++ ss.map aliOf).map D.str)])) →
    ((ss.all srcAny && fresh pre (ss.map aliOf)) = false → ∀ c, QS (.rt (.bl false)) (S ++ [some c])) →
    WR (gN 5) (sSeq (sIf (mOrT (mNotT (mTr (mIsi "tuple" (mVar 5)))) (mOrT (mBl (mBin fNe (mCall fLen (mCons (mVar 5) mNil)) (mC (.int 2)))) (mNotT (mTr (mCall m_law_is_name (mCons (mBin fIx (mVar 5) (mC (.int 0))) mNil)))))) (sRet (mC (.bl false))) sNext)
    (sSeq (sIf (mOrT (mBl (mBin fInC (mBin fIx (mVar 5) (mC (.int 0))) (mVar 4))) (mNotT (mTr (mCall m_law_is_ref (mCons (mBin fIx (mVar 5) (mC (.int 1))) mNil))))) (sRet (mC (.bl false))) sNext)
    (sDrop (mApp (mVar 4) (mBin fIx (mVar 5) (mC (.int 0))))))) ss [o0, o1, o2, o3, some (.loc S.length), o5, none, none, none] (S ++ [some (pre.map D.str)]) QS
  | [], pre, o5, QS, _, _, k1, _ => by
    rw [wr_nil]
    have := k1 rfl o5
    rwa [List.map_nil, List.append_nil] at this
  | x :: ss, pre, o5, QS, ha, hl, k1, k2 => by
    have ax := ha x (List.mem_cons_self ..)
    rw [List.length_cons] at hl
    rw [wr_cons, on_gN]
    simp only [List.all_cons, List.map_cons] at k1 k2
    rcases tw_cases x with ⟨p, q, rfl⟩ | ⟨h1, h2⟩
    · have ap := ax.item p (by simp)
      have aq := ax.item q (by simp)
      have es : srcAny (.tup [p, q]) = (nmAny p && refAny q) := rfl
      rw [es] at k1 k2
      walk_at "sw"
      rw [wf_is (l_name ap)]
      walk_at "sw"
      cases hp : nmAny p with
      | false =>
        rw [hp] at k2
        simp only [Bool.not_false, if_true]
        exact k2 rfl _
      | true =>
        rw [hp] at k1 k2
        simp only [Bool.not_true, Bool.false_eq_true, if_false]
        obtain ⟨y, rfl⟩ : ∃ y, p = .str y := by
          cases p <;> first | exact ⟨_, rfl⟩ | cases hp
        have ea : aliOf (.tup [.str y, q]) = y := rfl
        rw [ea] at k1 k2
        try walk_at "sw"
        rw [wb_inA at_last hp, isK_any]
        try walk_at "sw"
        unfold fresh at k1 k2
        by_cases hy : y ∈ pre
        · rw [decide_eq_true hy] at k2 ⊢
          simp only [if_true]
          exact k2 (by simp) _
        · rw [decide_eq_false hy] at k1 k2 ⊢
          simp only [Bool.false_eq_true, if_false]
          try walk_at "sw"
          rw [wf_is (l_isref aq)]
          try walk_at "sw"
          cases hq : refAny q with
          | false =>
            rw [hq] at k2
            simp only [Bool.not_false, if_true]
            exact k2 (by simp) _
          | true =>
            rw [hq] at k1 k2
            simp only [Bool.not_true, Bool.false_eq_true, if_false]
            try walk_at "sw"
            rw [cell_last]
            try walk_at "sw"
            refine ⟨rfl, ?_⟩
            try walk_at "sw"
            rw [List.length_map]
            refine ⟨by omega, ?_⟩
            try walk_at "sw"
            rw [set_last]
            have e1 : pre.map D.str ++ [.str y] = (pre ++ [y]).map D.str := by simp
            rw [e1]
            refine l_srcs ss (pre ++ [y]) (fun z hz => ha z (List.mem_cons_of_mem _ hz)) (by rw [List.length_append, List.length_singleton]; omega) (fun h o => ?_) (fun h c => ?_)
            · have := k1 (by simpa using h) o
              rwa [List.append_assoc]
            · exact k2 (by simpa using h) c
    · have e0 : srcAny x = false := h2 _
      rw [e0] at k2
      have k3 := k2 rfl
      cases x <;> try (walk_at "sw"; exact k3 _)
      · rename_i xs
        have hx := tw_len h1
        walk_at "sw"
        rw [if_pos (by simp; omega)]
        try walk_at "sw"
        exact k3 _
      · have := ax.full
        simp [D.full] at this
/-- how a side begins -/
theorem side_shape (h : sideAny al d = true) : ∃ w r, d = .tup (.str w :: r) ∧ fldAny al d = (w == "of") := by
  unfold sideAny at h
  rw [Bool.or_eq_true] at h
  rcases h with h | h
  · rcases th_cases d with ⟨x, y, z, rfl⟩ | ⟨_, h2⟩
    · have e : fldAny al (.tup [x, y, z]) = ((nmAny x && (nmAny y && nmAny z)) && (isK "of" x && al.any fun w => isK w y)) := rfl
      have h' := h
      rw [e] at h'
      simp only [Bool.and_eq_true] at h'
      have hx := isk_of h'.2.1
      subst hx
      exact ⟨_, _, rfl, by rw [h]; simp⟩
    · rw [fldAny, h2] at h
      cases h
  · cases d <;> try (cases h; done)
    rename_i xs
    match xs with
    | [] => cases h
    | [x] => cases x <;> cases h
    | [x, y] =>
      cases x <;> try (cases h; done)
      rename_i w
      refine ⟨w, [y], rfl, ?_⟩
      have e : fldAny al (.tup [.str w, y]) = false := rfl
      rw [e]
      symm
      rw [beq_eq_false_iff_ne]
      intro hw
      subst hw
      simp [conAny, ofs_eq] at h
    | x :: y :: z :: r =>
      cases x <;> cases h
theorem side_of (h : fldAny al d = true) : sideAny al d = true := by
  unfold sideAny
  rw [h, Bool.true_or]
theorem l_conds (e : S[n]? = some (some (al.map D.str))) : ∀ (cs : List D) {o6 : Option D} {QS : Fl → Sto → Prop}, (∀ x ∈ cs, Any x) →
    (cs.all (cndAny al) = true → ∀ o6', QS (.nx [o0, o1, o2, o3, some (.loc n), o5, o6', none, none]) S) →
    (cs.all (cndAny al) = false → QS (.rt (.bl false)) S) →
    WR (gN 6) (sSeq (sIf (mOrT (mNotT (mTr (mIsi "tuple" (mVar 6)))) (mOrT (mBl (mBin fNe (mCall fLen (mCons (mVar 6) mNil)) (mC (.int 2)))) (mNotT (mTr (mCall fAll (mCons (mLc (mSq (mVar 6)) (gN 8) mYes (mCall m_law_is_side (mCons (mVar 8) (mCons (mVar 4) mNil))) [8]) mNil)))))) (sRet (mC (.bl false))) sNext)
    (sIf (mBl (mBin fNe (mBin fIx (mBin fIx (mVar 6) (mC (.int 0))) (mC (.int 0))) (mC (.str "of")))) (sRet (mC (.bl false))) sNext)) cs [o0, o1, o2, o3, some (.loc n), o5, o6, none, none] S QS
  | [], o6, QS, _, k1, _ => by
    rw [wr_nil]
    exact k1 rfl o6
  | x :: cs, o6, QS, ha, k1, k2 => by
    have ax := ha x (List.mem_cons_self ..)
    rw [wr_cons, on_gN]
    simp only [List.all_cons] at k1 k2
    rcases tw_cases x with ⟨p, q, rfl⟩ | ⟨h1, h2⟩
    · have ap := ax.item p (by simp)
      have aq := ax.item q (by simp)
      have es : cndAny al (.tup [p, q]) = (fldAny al p && sideAny al q) := rfl
      rw [es] at k1 k2
      walk_at "sw"
      refine ⟨by decide, wl_pure (f := fun d => .bl (sideAny al d)) (fun u hu => ?_) ?_⟩
      · walk_at "sw"
        rw [wf_is (l_side e (ax.item u hu))]
        exact ⟨rfl, rfl⟩
      · rw [wf_is fAll_map]
        try walk_at "sw"
        have e2 : [p, q].all (sideAny al) = (sideAny al p && sideAny al q) := by simp
        rw [e2]
        cases hp : sideAny al p with
        | false =>
          have hf : fldAny al p = false := by
            cases h : fldAny al p with
            | false => rfl
            | true => rw [side_of h] at hp; cases hp
          rw [hf] at k2
          simp
          exact k2 rfl
        | true =>
          cases hq : sideAny al q with
          | false =>
            rw [hq] at k2
            simp
            exact k2 (by simp)
          | true =>
            rw [hq] at k1 k2
            simp only [Bool.and_self, Bool.not_true, Bool.false_eq_true, if_false]
            obtain ⟨w, r, rfl, hw⟩ := side_shape hp
            rw [hw] at k1 k2
            try walk_at "sw"
            cases hwo : (w == ("of" : Str)) with
            | false =>
              rw [hwo] at k2
              simp
              exact k2 rfl
            | true =>
              rw [hwo] at k1 k2
              simp only [Bool.not_true, Bool.false_eq_true, if_false]
              try walk_at "sw"
              exact l_conds e cs (fun z hz => ha z (List.mem_cons_of_mem _ hz)) (fun h o => k1 (by rw [h]; rfl) o) (fun h => k2 (by rw [h]; rfl))
    · have e0 : cndAny al x = false := h2 _
      rw [e0] at k2
      have k3 := k2 rfl
      cases x <;> try (walk_at "sw"; exact k3)
      · rename_i xs
        have hx := tw_len h1
        walk_at "sw"
        rw [if_pos (by simp; omega)]
        try walk_at "sw"
        exact k3
      · have := ax.full
        simp [D.full] at this
end LAW
/-! K20C -/
namespace LAW
open PySem PySem.Spec PyProof.Rows L2 DL SH SW SX
local macro_rules | `(tactic| walk_at "sl") => `(tactic| simp only [we_var, we_c, we_bin, we_call, wa_nil, wa_cons, we_tup, we_lst, we_cel, we_dic, we_neg, wo_np, wo_pt, we_sl, we_isi, we_st0, we_din, we_dix, we_andV, we_orV, we_notV, we_if, we_chn, we_get2, wt_bl, wt_tr, wt_not, wt_and, wt_or, wt_yes, ws_next, ws_seq, ws_ret, ws_drop, ws_set, ws_if, ws_brk, ws_cnt, ws_asg, ws_par, ws_aug, wf_fn, wa_sq, wa_rg, we_app, we_ext, we_pop, on_some, intOf_int, strOf_str, blOf_bl, nx_nx, nx_rt, nx_bk, nx_ct, rt_rt, rt_nx, tn_nx, tn_ct, tn_bk, tn_rt, at_zero, at_succ, wipe_nil, wipe_cons, on_gN, on_gT, on_gNl, on_gCn, wb_addI, wb_addS, wb_addL, wb_addT, wb_subI, wb_mulI, wb_mulL, wb_mulS, wb_mulT, wb_mod, wb_div, wb_pow, wb_cmp, wb_eqI, wb_eqS, wb_eqB, wb_neI, wb_neS, wb_isN, wb_ixT0, wb_ixT1, wb_ixT2, wb_ixL0, wb_ixL1, wb_ixL2, wf_lenT, wf_lenL, wf_lenS, wf_intI, wf_intB, wf_tupL, wf_tupT, wf_lisT, wf_lisL, wf_min, slT, slL, slS, on_trB, on_trT, on_trL, itT, itL, itS, cut1, List.set_cons_zero, List.set_cons_succ, List.map_cons, List.map_nil, List.length_cons, List.length_nil, Nat.reduceAdd, Nat.reduceSub, List.replicate_succ, List.replicate_zero, List.cons_append, List.nil_append, List.append_nil, if_true, if_false, Bool.false_eq_true, Bool.not_true, Bool.not_false, List.getElem?_cons_zero, List.getElem?_cons_succ, List.drop_succ_cons, List.drop_zero, isOf_non, isOf_bl, isOf_int, isOf_str, isOf_tup, isOf_lst, isOf_rol, isOf_dct, isA, String.reduceBEq, Bool.or_self, Bool.false_or, Bool.or_false, Bool.and_false, Bool.false_and, Bool.and_true, Bool.true_and, Bool.true_or, Bool.or_true, Bool.and_self, ofs_beq, cast0, cast1, cast2, cast3, cast4, cast5, beq_self_eq_true, Int.reduceLE, Int.reduceLT, Int.reduceAdd, Int.reduceSub, Int.reduceNeg, decide_true, decide_false, we_lc, we_lcC, ws_for, Nat.reduceLeDiff, true_and, and_true, Int.reduceToNat, List.reduceReplicate, List.flatten_cons, List.flatten_nil, Nat.reduceMul, Nat.reducePow, abs10, getO_str, Nat.reduceLT])
variable {S : Sto} {Q : D → Sto → Prop} {QS : Fl → Sto → Prop} {d : D} {al : List Str} {n : Nat} {m1 : ME} {ρ : Env'}
theorem not_at {x : D} {lo hi : Int} {f : D → Bool} (h : isT x = false) : allOf lo hi f x = false := all_no h
def SubB (S S' : Sto) : Prop := ∃ X, S' = S ++ X
theorem l_part (a : Any d) : ∃ X, m_law_is_part [d] S = some (.bl (partAny d), S ++ X) := by
  suffices h : WF m_law_is_part [d] S fun v S' => v = .bl (partAny d) ∧ SubB S S' by
    obtain ⟨v, S', e, rfl, X, rfl⟩ := h
    exact ⟨X, e⟩
  have no : SubB S S := ⟨[], (List.append_nil S).symm⟩
  have one : ∀ c, SubB S (S ++ [some c]) := fun c => ⟨_, rfl⟩
  unfold m_law_is_part b_law_is_part
  rcases th_cases d with ⟨x, y, z, rfl⟩ | ⟨h1, h2⟩
  · have ax := a.item x (by simp)
    have ay := a.item y (by simp)
    have az := a.item z (by simp)
    have es : partAny (.tup [x, y, z]) = (allOf 1 3 srcAny x && (decide (¬ unl ((itemsOf x).map aliOf) ((itemsOf x).map aliOf).length < ((itemsOf x).map aliOf).length) && (allOf 0 6 (cndAny ((itemsOf x).map aliOf)) y && allOf 1 6 (sideAny ((itemsOf x).map aliOf)) z))) := rfl
    rw [es]
    walk_at "sl"
    refine wl_pure (f := fun d => .bl (isT d)) (fun u hu => ?_) ?_
    · walk_at "sl"
      rw [isOf_full (a.item u hu).full, on_some]
      first | (exact ⟨by cases u <;> rfl, rfl⟩) | (cases u <;> rfl) | (cases u <;> simp [isI, isT, isA])
    · rw [wf_is fAll_map]
      try walk_at "sl"
      have e2 : [x, y, z].all isT = (isT x && (isT y && isT z)) := by simp
      rw [e2]
      cases hx : isT x with
      | false =>
        rw [all_no hx]
        simp
        exact no
      | true =>
      cases hy : isT y with
      | false =>
        rw [all_no (d := y) hy]
        simp
        exact no
      | true =>
      cases hz : isT z with
      | false =>
        rw [all_no (d := z) hz]
        simp
        exact no
      | true =>
      obtain ⟨ss, rfl⟩ := tup_at hx
      obtain ⟨cs, rfl⟩ := tup_at hy
      obtain ⟨os, rfl⟩ := tup_at hz
      simp only [Bool.and_self, Bool.not_true, Bool.false_eq_true, if_false]
      try walk_at "sl"
      have hl := ax.tlen
      refine l_srcs ss [] (fun u hu => ax.item u hu) (by simp; omega) (fun h o5' => ?_) (fun h c => ?_)
      · rw [Bool.and_eq_true] at h
        have hu : decide (¬ unl (ss.map aliOf) (ss.map aliOf).length < (ss.map aliOf).length) = true := by
          have := h.2
          rw [fresh_len, beq_iff_eq] at this
          rw [decide_eq_true_eq]
          omega
        rw [List.nil_append, all_in, all_in, all_in, show itemsOf (.tup ss) = ss from rfl, hu, h.1]
        simp only [Bool.and_true, Bool.true_and]
        have hc : (S ++ [some ((ss.map aliOf).map D.str)])[S.length]? = some (some ((ss.map aliOf).map D.str)) := at_last
        generalize (ss.map aliOf) = al at hc ⊢
        try walk_at "sl"
        generalize decide (1 ≤ (ss.length : Int)) = A
        generalize decide ((ss.length : Int) ≤ 3) = B
        have hC : decide (6 < (cs.length : Int)) = !decide ((cs.length : Int) ≤ 6) := by
          rw [Bool.eq_iff_iff]
          simp
        have h0 : decide (0 ≤ (cs.length : Int)) = true := by simp
        rw [hC, h0]
        generalize decide ((cs.length : Int) ≤ 6) = C
        generalize decide (1 ≤ (os.length : Int)) = E
        generalize decide ((os.length : Int) ≤ 6) = G
        cases A with
        | false => exact ⟨by simp, one _⟩
        | true =>
        cases B with
        | false => exact ⟨by simp, one _⟩
        | true =>
        cases C with
        | false => exact ⟨by simp, one _⟩
        | true =>
        cases E with
        | false => exact ⟨by simp, one _⟩
        | true =>
        cases G with
        | false => exact ⟨by simp, one _⟩
        | true =>
        simp only [Bool.not_true, Bool.false_eq_true, if_true, if_false, Bool.true_and]
        refine l_conds hc cs (fun u hu => ay.item u hu) (fun h2 o6' => ?_) (fun h2 => ?_)
        · rw [h2]
          try walk_at "sl"
          have hz := az.tlen
          refine ⟨hz, wl_pure (f := fun d => .bl (sideAny al d)) (fun u hu => ?_) ?_⟩
          · walk_at "sl"
            rw [wf_is (l_side hc (az.item u hu))]
            exact ⟨rfl, rfl⟩
          · rw [wf_is fAll_map]
            exact ⟨by simp, one _⟩
        · rw [h2]
          exact ⟨by simp, one _⟩
      · rw [all_in, show itemsOf (.tup ss) = ss from rfl]
        have : (ss.all srcAny && decide (¬ unl (ss.map aliOf) (ss.map aliOf).length < (ss.map aliOf).length)) = false := by
          rw [← h, fresh_len]
          congr 1
          rw [Bool.eq_iff_iff, decide_eq_true_eq, beq_iff_eq]
          have := unl_le (ss.map aliOf) (ss.map aliOf).length
          omega
        refine ⟨?_, one _⟩
        have key : ∀ a b c d : Bool, (a && b) = false → ((c && a) && (b && d)) = false := by decide
        rw [key _ _ _ _ this]
  · have e0 : partAny d = false := h2 _
    rw [e0]
    cases d <;> try (walk_at "sl"; first | exact no | exact ⟨rfl, no⟩)
    · rename_i xs
      have hx := th_len h1
      walk_at "sl"
      rw [if_pos (by simp; omega)]
      first | exact no | exact ⟨rfl, no⟩
    · have := a.full
      simp [D.full] at this
theorem wl_map {g : MG} {m : ME} {f : D → D} (P : Sto → Prop) {Q : List D → Sto → Prop} : ∀ {ds : List D} {S : Sto}, P S → (∀ d ∈ ds, ∀ S, P S → On (g d ρ) fun ρ1 => SW.WE m ρ1 S fun r S' => r = f d ∧ P S') → (∀ S', P S' → Q (ds.map f) S') → SW.WL g mYes m ρ ds S Q
  | [], S, hp, _, k => wl_nil.mpr (k S hp)
  | d :: ds, S, hp, h, k => by
    rw [wl_cons]
    obtain ⟨ρ1, e1, r, S1, e2, rfl, p1⟩ := h d (List.mem_cons_self ..) S hp
    refine ⟨ρ1, e1, wt_yes.mpr ?_⟩
    rw [if_pos rfl]
    exact ⟨_, _, e2, wl_map P (Q := fun rs S' => Q (f d :: rs) S') p1 (fun x hx => h x (List.mem_cons_of_mem _ hx)) k⟩
theorem wl_sel {S : Sto} {ρ : Env'} {g : MG} {t : MT} {m : ME} {p : D → Bool} {f : D → D} : ∀ {ds : List D} {Q : List D → Sto → Prop}, (∀ d ∈ ds, On (g d ρ) fun ρ1 => SW.WT t ρ1 S fun x S1 => x = p d ∧ S1 = S ∧ SW.WE m ρ1 S fun r S' => r = f d ∧ S' = S) → Q ((ds.filter p).map f) S → SW.WL g t m ρ ds S Q
  | [], _, _, k => wl_nil.mpr k
  | d :: ds, _, h, k => by
    rw [wl_cons]
    obtain ⟨ρ1, e1, x, S1, e2, rfl, rfl, r, S2, e3, rfl, rfl⟩ := h d (List.mem_cons_self ..)
    refine ⟨ρ1, e1, _, _, e2, ?_⟩
    rw [List.filter_cons] at k
    cases hp : p d with
    | true =>
      rw [hp, if_pos rfl] at k
      rw [if_pos rfl]
      exact ⟨_, _, e3, wl_sel (fun x hx => h x (List.mem_cons_of_mem _ hx)) k⟩
    | false =>
      rw [hp, if_neg (by simp)] at k
      rw [if_neg (by simp)]
      exact wl_sel (fun x hx => h x (List.mem_cons_of_mem _ hx)) k
theorem unl_up {κ : Type} [DecidableEq κ] : ∀ (suf pre : List κ), unl pre pre.length ≤ unl (pre ++ suf) (pre ++ suf).length
  | [], pre => by rw [List.append_nil]; exact Nat.le_refl _
  | x :: suf, pre => by
    have e : pre ++ x :: suf = (pre ++ [x]) ++ suf := by simp
    have h := unl_up suf (pre ++ [x])
    rw [e]
    refine Nat.le_trans ?_ h
    rw [unl_snoc]
    split <;> omega
theorem unl_one {κ : Type} [DecidableEq κ] {x : κ} : ∀ (suf pre : List κ), unl pre pre.length = 1 → (∀ y ∈ pre, y = x) → x ∈ pre → (unl (pre ++ suf) (pre ++ suf).length = 1 ↔ ∀ y ∈ suf, y = x)
  | [], pre, h, _, _ => by simp [h]
  | y :: suf, pre, h, ha, hx => by
    have e : pre ++ y :: suf = (pre ++ [y]) ++ suf := by simp
    rw [e]
    by_cases hy : y = x
    · subst hy
      have := unl_one suf (pre ++ [y]) (by rw [unl_snoc, if_pos (by simpa using hx), h]) (fun z hz => by
        rcases List.mem_append.mp hz with hz | hz
        · exact ha z hz
        · simpa using hz) (by simp)
      rw [this]
      simp
    · constructor
      · intro h2
        have g := unl_up suf (pre ++ [y])
        rw [unl_snoc, if_neg (by simp; exact fun hm => hy (ha y hm)), h] at g
        omega
      · intro h2
        exact absurd (h2 y (List.mem_cons_self ..)) hy
theorem unl_same {x : Int} {ys : List Int} : (unl (x :: ys) (x :: ys).length == 1) = (ys.filter fun y => !(y == x)).isEmpty := by
  have := unl_one (x := x) ys [x] (by simp [unl]) (by simp) (by simp)
  rw [List.singleton_append] at this
  rw [Bool.eq_iff_iff, beq_iff_eq, this, List.isEmpty_iff, List.filter_eq_nil_iff]
  simp
theorem SubB.trans {A B C : Sto} (h : SubB A B) (g : SubB B C) : SubB A C := by
  obtain ⟨X, rfl⟩ := h
  obtain ⟨Y, rfl⟩ := g
  exact ⟨X ++ Y, by rw [List.append_assoc]⟩
/-- the law's look at queries -/
theorem l_query (a : Any d) : ∃ X, m_law_is_query [d] S = some (.bl (qryAny d), S ++ X) := by
  suffices h : WF m_law_is_query [d] S fun v S' => v = .bl (qryAny d) ∧ SubB S S' by
    obtain ⟨v, S', e, rfl, X, rfl⟩ := h
    exact ⟨X, e⟩
  have no : SubB S S := ⟨[], (List.append_nil S).symm⟩
  unfold m_law_is_query b_law_is_query
  by_cases ht : isT d = true
  · obtain ⟨ps, rfl⟩ := tup_at ht
    have es : qryAny (.tup ps) = (((decide (1 ≤ (ps.length : Int)) && decide ((ps.length : Int) ≤ 4)) && ps.all partAny) && (unl (ps.map outN) (ps.map outN).length == 1)) := rfl
    rw [es]
    walk_at "sl"
    have hl := a.tlen
    by_cases h1 : 1 ≤ (ps.length : Int)
    · rw [if_pos (by simpa using h1)]
      by_cases h4 : (ps.length : Int) ≤ 4
      · rw [if_neg (by simpa using h4), decide_eq_true h1, decide_eq_true h4]
        refine ⟨hl, wl_map (f := fun d => .bl (partAny d)) (SubB S) no (fun u hu S1 s1 => ?_) fun S1 s1 => ?_⟩
        · walk_at "sl"
          obtain ⟨X, e⟩ := l_part (S := S1) (a.item u hu)
          rw [wf_is e]
          exact ⟨rfl, s1.trans ⟨X, rfl⟩⟩
        · rw [wf_is fAll_map]
          try walk_at "sl"
          cases hall : ps.all partAny with
          | false => exact ⟨by simp, s1⟩
          | true =>
            simp only [Bool.not_true, Bool.false_eq_true, if_false, Bool.true_and, Bool.and_true]
            cases ps with
            | nil => simp at h1
            | cons p ps =>
              obtain ⟨s, c, os, rfl⟩ := part_shape (List.all_eq_true.mp hall p (List.mem_cons_self ..))
              refine ⟨hl, wl_sel (p := fun u => !(outN u == (os.length : Int))) (f := fun u => u) (fun u hu => ?_) ?_⟩
              · obtain ⟨s2, c2, os2, rfl⟩ := part_shape (List.all_eq_true.mp hall u hu)
                walk_at "sl"
                first | exact ⟨rfl, rfl, rfl, rfl⟩ | rfl
              · rw [wb_le]
                refine ⟨?_, s1⟩
                have e1 : (outN (.tup [s, c, .tup os]) :: ps.map outN) = (List.map outN (.tup [s, c, .tup os] :: ps)) := rfl
                have e2 : (List.filter (fun u => !(outN u == (os.length : Int))) (.tup [s, c, .tup os] :: ps)) = List.filter (fun u => !(outN u == (os.length : Int))) ps := by
                  rw [List.filter_cons]
                  simp [outN]
                rw [← e1, unl_same, List.map_id', e2]
                simp only [Bool.false_eq_true, if_false]
                congr 1
                rw [Bool.eq_iff_iff, List.isEmpty_iff, List.isEmpty_iff, List.filter_eq_nil_iff, List.filter_eq_nil_iff]
                simp [outN]
      · rw [if_pos (by simpa using h4), decide_eq_false h4]
        exact ⟨by simp, no⟩
    · rw [if_neg (by simpa using h1), decide_eq_false h1]
      exact ⟨by simp, no⟩
  · have e0 : qryAny d = false := by
      unfold qryAny
      rw [all_no (by simpa using ht), Bool.false_and]
    rw [e0]
    cases d <;> try (walk_at "sl"; first | exact no | exact ⟨rfl, no⟩)
    · exact absurd rfl ht
    · have := a.full
      simp [D.full] at this
end LAW
/-! K20D -/
namespace LAW
open PySem PySem.Spec PyProof.Rows L2 DL SH SW SX
local macro_rules | `(tactic| walk_at "sl") => `(tactic| simp only [we_var, we_c, we_bin, we_call, wa_nil, wa_cons, we_tup, we_lst, we_cel, we_dic, we_neg, wo_np, wo_pt, we_sl, we_isi, we_st0, we_din, we_dix, we_andV, we_orV, we_notV, we_if, we_chn, we_get2, wt_bl, wt_tr, wt_not, wt_and, wt_or, wt_yes, ws_next, ws_seq, ws_ret, ws_drop, ws_set, ws_if, ws_brk, ws_cnt, ws_asg, ws_par, ws_aug, wf_fn, wa_sq, wa_rg, we_app, we_ext, we_pop, on_some, intOf_int, strOf_str, blOf_bl, nx_nx, nx_rt, nx_bk, nx_ct, rt_rt, rt_nx, tn_nx, tn_ct, tn_bk, tn_rt, at_zero, at_succ, wipe_nil, wipe_cons, on_gN, on_gT, on_gNl, on_gCn, wb_addI, wb_addS, wb_addL, wb_addT, wb_subI, wb_mulI, wb_mulL, wb_mulS, wb_mulT, wb_mod, wb_div, wb_pow, wb_cmp, wb_eqI, wb_eqS, wb_eqB, wb_neI, wb_neS, wb_isN, wb_ixT0, wb_ixT1, wb_ixT2, wb_ixL0, wb_ixL1, wb_ixL2, wf_lenT, wf_lenL, wf_lenS, wf_intI, wf_intB, wf_tupL, wf_tupT, wf_lisT, wf_lisL, wf_min, slT, slL, slS, on_trB, on_trT, on_trL, itT, itL, itS, cut1, List.set_cons_zero, List.set_cons_succ, List.map_cons, List.map_nil, List.length_cons, List.length_nil, Nat.reduceAdd, Nat.reduceSub, List.replicate_succ, List.replicate_zero, List.cons_append, List.nil_append, List.append_nil, if_true, if_false, Bool.false_eq_true, Bool.not_true, Bool.not_false, List.getElem?_cons_zero, List.getElem?_cons_succ, List.drop_succ_cons, List.drop_zero, isOf_non, isOf_bl, isOf_int, isOf_str, isOf_tup, isOf_lst, isOf_rol, isOf_dct, isA, String.reduceBEq, Bool.or_self, Bool.false_or, Bool.or_false, Bool.and_false, Bool.false_and, Bool.and_true, Bool.true_and, Bool.true_or, Bool.or_true, Bool.and_self, ofs_beq, cast0, cast1, cast2, cast3, cast4, cast5, beq_self_eq_true, Int.reduceLE, Int.reduceLT, Int.reduceAdd, Int.reduceSub, Int.reduceNeg, decide_true, decide_false, we_lc, we_lcC, ws_for, Nat.reduceLeDiff, true_and, and_true, Int.reduceToNat, List.reduceReplicate, List.flatten_cons, List.flatten_nil, Nat.reduceMul, Nat.reducePow, abs10, getO_str, Nat.reduceLT])
local macro_rules | `(tactic| walk_at "fits") => `(tactic| first | exact Fits.nil | (apply Fits.cons; walk_at "fit"; walk_at "fits"))
local macro_rules | `(tactic| walk_at "fit") => `(tactic| first
  | assumption
  | exact fix_nm (by assumption)
  | exact fix_lit _ (by decide +kernel) rfl (by decide +kernel) (by decide +kernel)
  | exact fix_int1 (by omega)
  | exact fix_up (by assumption) (by decide) (by decide)
  | (apply fit_tup; walk_at "fits"; first | exact Nat.le_refl _ | decide +kernel)
  | (apply fit_lst; walk_at "fits"; first | exact Nat.le_refl _ | decide +kernel))
variable {S T : Sto} {Q : D → Sto → Prop} {d : D} {many : Int} {ns : List D}
theorem len_1 {xs : List D} (h : xs.length = 1) : ∃ x, xs = [x] := List.length_eq_one_iff.mp h
theorem len_2 {xs : List D} (h : xs.length = 2) : ∃ x y, xs = [x, y] := match xs, h with
  | [x, y], _ => ⟨x, y, rfl⟩
theorem on_gTL {n : Nat} {g : MGs} {ρ : Env'} {xs : List D} {P : Env' → Prop} : On (gU n g (.lst xs) ρ) P ↔ xs.length = n ∧ On (g xs ρ) P := by
  show On (if xs.length = n then g xs ρ else none) P ↔ _
  unfold On
  constructor
  · rintro ⟨r, e, q⟩
    obtain ⟨h1, h2⟩ := ifo e
    exact ⟨h1, r, h2, q⟩
  · rintro ⟨h1, r, h2, q⟩
    exact ⟨r, by rw [if_pos h1]; exact h2, q⟩
theorem fits_all {n h t : Nat} : ∀ {xs : List D}, (∀ x ∈ xs, Fit n h t x) → Fits (xs.length * n) h t xs
  | [], _ => Fits.nil.mono (Nat.zero_le _) (Nat.le_refl _) (Nat.le_refl _)
  | x :: xs, hx => (Fits.cons (hx x (List.mem_cons_self ..)) (fits_all fun y hy => hx y (List.mem_cons_of_mem _ hy))).mono (by rw [List.length_cons, Nat.succ_mul]; omega) (Nat.le_refl _) (Nat.le_refl _)
theorem l_take (z : Dr T S) (h1 : 1 ≤ many) (h2 : many ≤ 1000000) (k : ∀ v S', 0 ≤ v → v < many → Dr T S' → Q (.int v) S') : WF m_law_take [.loc 0, .int many] S Q := wf_take z h1 h2 k
structure Ns (ns : List D) : Prop where
  len : 4 ≤ ns.length ∧ ns.length ≤ 6
  nm : ∀ d ∈ ns, NmD d
theorem wb_name {v : Int} (N : Ns ns) (h0 : 0 ≤ v) (h1 : v < ns.length) (k : ∀ d, NmD d → Q d S) : WB fIx (.lst ns) (.int v) S Q := wb_ix h0 h1 fun d hd => k d (N.nm d hd)
theorem l_refd (N : Ns ns) (z : Dr T S) (k : ∀ d S', Dr T S' → Fit 20 1 1 d → Q d S') : WF m_law_ref [.loc 0, .lst ns] S Q := by
  have nl := N.len
  unfold m_law_ref b_law_ref
  walk_at "sl"
  refine ⟨by decide, by decide, ?_⟩
  refine wl_inv (P := Dr T) (R := NmD) z (fun d hd S1 z1 => ?_) fun rs S1 z1 hl hr => ?_
  · walk_at "sl"
    refine l_take z1 (by omega) (by omega) fun v S2 v0 v1 z2 => ?_
    exact wb_name N v0 v1 fun nm hnm => ⟨z2, hnm⟩
  · rw [upTo_len] at hl
    obtain ⟨x, y, rfl⟩ := len_2 (xs := rs) (by rw [hl])
    have hx := hr x (by simp)
    have hy := hr y (by simp)
    rw [on_gTL]
    refine ⟨rfl, ?_⟩
    walk_at "sl"
    refine l_take z1 (by decide) (by decide) fun v S2 v0 v1 z2 => ?_
    refine wb_ix v0 (by exact v1) fun e he => k e S2 z2 ?_
    revert e
    simp only [List.forall_mem_cons]
    exact ⟨fit_nm hx (by decide), by walk_at "fit", fun _ h => nomatch h⟩
theorem l_side_d {al : List D} (N : Ns ns) (ha : 1 ≤ al.length ∧ al.length ≤ 6) (hn : ∀ d ∈ al, NmD d) (z : Dr T S) (k : ∀ d S', Dr T S' → Fit 30 1 1 d → Q d S') : WF m_law_some_side [.loc 0, .lst ns, .lst al] S Q := by
  have nl := N.len
  unfold m_law_some_side b_law_some_side
  walk_at "sl"
  refine l_take z (by omega) (by omega) fun v S1 v0 v1 z1 => wb_ix v0 v1 fun p hp => ?_
  have hp := hn p hp
  refine l_take z1 (by omega) (by omega) fun w S2 w0 w1 z2 => wb_name N w0 w1 fun q hq => ?_
  try walk_at "sl"
  refine l_take z2 (by decide) (by decide) fun u S3 u0 u1 z3 => ?_
  try walk_at "sl"
  refine ⟨by decide +kernel, ?_⟩
  refine l_take z3 (by decide) (by decide) fun w1 S4 a0 a1 z4 => ?_
  have fo : Fit 30 1 1 (.tup [.str "of", p, q]) := by
    exact (Fits.tup (h := 0) (t := 0) (Fits.cons (fit_str (n := 4) (by decide +kernel) (by decide +kernel)) (Fits.cons (fit_nm hp (Nat.le_refl _)) (Fits.cons (fit_nm hq (Nat.le_refl _)) Fits.nil)))).mono (by decide) (by decide) (by decide)
  have fin : ∀ {e : D} {S5 : Sto}, Dr T S5 → Fit 30 1 1 e → WF m_law_take [.loc 0, .int 3] S5 fun y S2 => WB fIx (.lst [.tup [.str "of", p, q], .tup [.str "of", p, q], e]) y S2 fun d S1 => Q d S1 := fun {e S5} z5 fe => by
    refine l_take z5 (by decide) (by decide) fun j S6 j0 j1 z6 => wb_ix j0 (by exact j1) fun x hx => k x S6 z6 ?_
    revert x
    simp only [List.forall_mem_cons]
    exact ⟨fo, fo, fe, fun _ h => nomatch h⟩
  rw [wb_eqI, blOf_bl, on_some]
  by_cases h8 : (w1 == 0) = true
  · rw [if_pos h8]
    refine ⟨by decide +kernel, ?_⟩
    refine l_take z4 (by decide) (by decide) fun j S6 j0 j1 z6 => wb_ix j0 (by exact j1) fun x hx => fin z6 ?_
    revert x
    simp only [List.forall_mem_cons]
    exact ⟨fit_of (by decide +kernel), fit_of (by decide +kernel), fit_of (by decide +kernel), fit_of (by decide +kernel), fun _ h => nomatch h⟩
  · rw [if_neg h8]
    refine l_take z4 (by decide) (by decide) fun j S6 j0 j1 z6 => wb_ix j0 (by exact j1) fun x hx => fin z6 ?_
    revert x
    simp only [List.forall_mem_cons]
    refine ⟨?_, fit_of (by decide +kernel), fit_of (by decide +kernel), fit_of (by decide +kernel), fun _ h => nomatch h⟩
    exact (Fits.tup (h := 0) (t := 0) (Fits.cons (fit_str (n := 4) (by decide +kernel) (by decide +kernel)) (Fits.cons (fit_int1 (n := 1) (by omega) (Nat.le_refl _)) Fits.nil))).mono (by decide) (by decide) (by decide)
theorem tup_ok {n h t : Nat} {x : D} (f : Fit n h t x) : Fit (n + 1) (h + 1) (t + 1) (.tup [x]) := ((Fits.cons f Fits.nil).tup).mono (by omega) (Nat.le_refl _) (Nat.le_refl _)
theorem lst_ok {n h t : Nat} {x : D} (f : Fit n h t x) : Fit (n + 1) (h + 1) t (.lst [x]) := ((Fits.cons f Fits.nil).lst (u := t)).mono (by omega) (Nat.le_refl _) (Nat.le_refl _)
def odds : List D := [.non, .bl true, .bl false, .int 0, .int 1, .int (-1), .str "", .str "A", .str "int", .str "truth", .str "abcdefghi", .str "a b", .lst [], .dct [] [], .tup [], .tup [.str "a"], .tup [.str "a", .str "b", .str "c"], .int (10 ^ 18 + 1),
  .tup [.str "int", .bl true], .tup [.str "text", .str (repS "x" 21)], .tup [.str "param", .int 4], .tup [.str "value"], .tup [.str "column", .str "a"], .tup [.str "next", .str "a"]]
theorem odds_fit : ∀ e ∈ odds, Fit 28 1 1 e := by
  simp only [odds, List.forall_mem_cons]
  exact ⟨fit_of (by decide +kernel), fit_of (by decide +kernel), fit_of (by decide +kernel), fit_of (by decide +kernel), fit_of (by decide +kernel), fit_of (by decide +kernel), fit_of (by decide +kernel), fit_of (by decide +kernel), fit_of (by decide +kernel), fit_of (by decide +kernel), fit_of (by decide +kernel), fit_of (by decide +kernel), fit_of (by decide +kernel), fit_of (by decide +kernel), fit_of (by decide +kernel), fit_of (by decide +kernel), fit_of (by decide +kernel), fit_of (by decide +kernel), fit_of (by decide +kernel), fit_of (by decide +kernel), fit_of (by decide +kernel), fit_of (by decide +kernel), fit_of (by decide +kernel), fit_of (by decide +kernel), fun _ h => nomatch h⟩
/-- where nothing stands inside -/
theorem bent_flat {n h t : Nat} {o : D} (fd : Fit n h t d) (fo : Fit 28 1 1 o) (z : Dr T S) (k : ∀ d' S', Dr T S' → Fit (2 * n + 28) (h + 2) (t + 2) d' → Q d' S') : WF m_law_take [.loc 0, .int 3] S fun y S2 => WB fIx (.lst [o, .lst [d], .tup [d]]) y S2 fun d S1 => Q d S1 := by
  refine l_take z (by decide) (by decide) fun v S2 a0 a1 z2 => wb_ix a0 (by exact a1) fun e he => k e S2 z2 ?_
  revert e
  simp only [List.forall_mem_cons]
  exact ⟨fo.mono (by omega) (by omega) (by omega), (lst_ok fd).mono (by omega) (by omega) (by omega), (tup_ok fd).mono (by omega) (by omega) (by omega), fun _ h => nomatch h⟩
theorem mem_dep : ∀ {l : List D} {y : D}, y ∈ l → tupDep y ≤ tupDeps l
  | a :: l, y, hy => by
    simp only [tupDeps]
    rcases List.mem_cons.mp hy with rfl | hy
    · omega
    · have := mem_dep hy
      omega
theorem l_bent : ∀ (f : Nat) {n h t : Nat} {d : D}, Fit n h t d → tupDep d ≤ f → n ≤ 100000 → ∀ {S : Sto} {Q : D → Sto → Prop}, Dr T S → (∀ d' S', Dr T S' → Fit (2 * n + 28) (h + 2) (t + 2) d' → Q d' S') → WF (m_law_bent (f + 1)) [.loc 0, d] S Q := by
  intro f
  induction f with
  | zero =>
    intro n h t d fd ht hn S Q z k
    have a : Any d := fd.any (by omega)
    show WF (mFn 7 (b_law_bent (m_law_bent 0))) _ _ _
    unfold b_law_bent
    walk_at "sl"
    refine ⟨by decide +kernel, ?_⟩
    refine l_take z (by decide) (by decide) fun v S1 v0 v1 z1 => wb_ix v0 (by exact v1) fun o ho => ?_
    have fo := odds_fit o ho
    cases d <;> try (walk_at "sl"; exact bent_flat fd fo z1 k)
    · rename_i xs
      simp [tupDep] at ht
    · have := a.full
      simp [D.full] at this
  | succ f ih =>
    intro n h t d fd ht hn S Q z k
    have a : Any d := fd.any (by omega)
    show WF (mFn 7 (b_law_bent (m_law_bent (f + 1)))) _ _ _
    unfold b_law_bent
    walk_at "sl"
    refine ⟨by decide +kernel, ?_⟩
    refine l_take z (by decide) (by decide) fun v S1 v0 v1 z1 => wb_ix v0 (by exact v1) fun o ho => ?_
    have fo := odds_fit o ho
    cases d <;> try (walk_at "sl"; exact bent_flat fd fo z1 k)
    · rename_i xs
      walk_at "sl"
      rw [wb_eqE a.full]
      walk_at "sl"
      cases xs with
      | nil =>
        rw [if_pos (by simp)]
        exact bent_flat fd fo z1 k
      | cons x r =>
        rw [if_neg (by simp)]
        have hl := a.tlen
        refine l_take z1 (by decide) (by decide) fun w S2 w0 w1 z2 => ?_
        walk_at "sl"
        rw [List.length_cons] at hl
        refine l_take z2 (by omega) (by omega) fun j S3 j0 j1 z3 => ?_
        walk_at "sl"
        obtain ⟨i, rfl⟩ := Int.eq_ofNat_of_zero_le j0
        have hi : i < (x :: r).length := by
          rw [List.length_cons]
          omega
        have h1 : 1 ≤ h := by
          have := fd.dp
          simp only [D.py, PyData.depth] at this
          omega
        have t1 : 1 ≤ t := by
          have := fd.tp
          simp only [tupDep] at this
          omega
        have n1 : 1 ≤ n := Nat.le_trans (by omega) fd.wt
        have g := fd.tups
        have hln := fd.tlen
        rw [List.length_cons] at hln
        have lt1 : ∀ k, ((x :: r).take k).length ≤ r.length + 1 := fun k => by rw [List.length_take, List.length_cons]; omega
        have lt2 : ∀ k, ((x :: r).drop k).length ≤ r.length + 1 := fun k => by rw [List.length_drop, List.length_cons]; omega
        by_cases hw0 : w = 0
        · subst hw0
          rw [if_pos (by simp)]
          rw [take_up j0, drop_up (v := (i : Int) + 1) (by omega)]
          have e0 : ((i : Nat) : Int).toNat = i := by omega
          have e1 : ((i : Nat) : Int).toNat + 1 = i + 1 := by omega
          have e2 : (((i : Nat) : Int) + 1).toNat = i + 1 := by omega
          rw [e0, e2]
          have fz := fits_out (j := i) (k := i + 1) (by omega) g
          have l1 := lt1 i
          have l2 := lt2 (i + 1)
          exact ⟨by omega, k _ _ z3 (fz.tup.mono (by omega) (by omega) (by omega))⟩
        · rw [if_neg (by simpa using hw0)]
          by_cases hw1 : w = 1
          · subst hw1
            rw [if_pos (by simp), take_up (v := (i : Int) + 1) (by omega), drop_up j0]
            have e0 : ((i : Nat) : Int).toNat = i := by omega
            have e2 : (((i : Nat) : Int) + 1).toNat = i + 1 := by omega
            rw [e0, e2]
            have fz := fits_twice (j := i) g
            have l1 := lt1 (i + 1)
            have l2 := lt2 i
            exact ⟨by omega, k _ _ z3 (fz.tup.mono (by omega) (by omega) (by omega))⟩
          · rw [if_neg (by simpa using hw1)]
            by_cases hw2 : w = 2
            · subst hw2
              rw [if_pos (by simp)]
              exact k _ _ z3 ((g.lst (u := t)).mono (by omega) (by omega) (by omega))
            · rw [if_neg (by simpa using hw2)]
              by_cases hw3 : w = 3
              · subst hw3
                rw [if_pos (by simp), we_rev]
                walk_at "sl"
                rw [tupOf_tup, on_some]
                exact k _ _ z3 (g.rev.tup.mono (by omega) (by omega) (by omega))
              · rw [if_neg (by simpa using hw3)]
                have e0 : ((i : Nat) : Int).toNat = i := by omega
                have e2 : (((i : Nat) : Int) + 1).toNat = i + 1 := by omega
                have l1 := lt1 i
                have l2 := lt2 (i + 1)
                have fin : ∀ {y : D} {S : Sto}, Dr T S → (∀ nx, Fit nx (h - 1) (t - 1) (x :: r)[i] → Fit (nx + (n + 28)) (h + 1) (t + 1) y) → (DL.cutD (x :: r) none (some (i : Int))).length ≤ 999999 ∧ (DL.cutD (x :: r) none (some (i : Int)) ++ [y]).length + (DL.cutD (x :: r) (some ((i : Int) + 1)) none).length ≤ 1000000 ∧
                    Q (.tup (DL.cutD (x :: r) none (some (i : Int)) ++ [y] ++ DL.cutD (x :: r) (some ((i : Int) + 1)) none)) S := by
                  intro y S z fy
                  rw [take_up j0, e0, drop_up (v := (i : Int) + 1) (by omega), e2]
                  have fz := fits_put (b := n + 28) (h' := h + 1) (t' := t + 1) g (List.getElem?_eq_getElem hi) (y := y) fy (by omega) (by omega)
                  refine ⟨by omega, ?_, k _ _ z (fz.tup.mono (by omega) (by omega) (by omega))⟩
                  simp only [List.length_append, List.length_singleton]
                  omega
                by_cases hw4 : w = 4
                · subst hw4
                  rw [if_pos (by simp)]
                  exact fin z3 fun nx _ => fo.mono (by omega) (by omega) (by omega)
                · rw [if_neg (by simpa using hw4)]
                  refine wb_ixT.mpr ⟨(x :: r)[i], List.getElem?_eq_getElem hi, ?_⟩
                  have fy := g.mem _ (List.getElem_mem hi)
                  have fy' : Fit ((x :: r)[i].py.bulk + 1) (h - 1) (t - 1) (x :: r)[i] := ⟨fy.pl, Nat.le_refl _, fy.dp, fy.tp⟩
                  have ty : tupDep (x :: r)[i] ≤ f := by
                    have := mem_dep (List.getElem_mem hi)
                    rw [show tupDep (.tup (x :: r)) = tupDeps (x :: r) + 1 from by simp only [tupDep]] at ht
                    omega
                  have wy : (x :: r)[i].py.bulk + 1 ≤ n := Nat.le_trans fy.wt (by omega)
                  refine ih fy' ty (by omega) z3 fun d2 S4 z4 f2 => ?_
                  exact fin z4 fun nx fx => f2.mono (by have := fx.wt; omega) (by omega) (by omega)
    · have := a.full
      simp [D.full] at this
theorem wf_tupC {c : List D} {n : Nat} (e : S[n]? = some (some c)) : WF fTup [.loc n] S Q ↔ Q (.tup c) S := by
  refine wf_is ?_
  show (match S[n]? with
    | some (some c) => some (D.tup c, S)
    | _ => none) = _
  rw [e]
theorem cell_dr {c : List D} (z : Dr (T ++ [some c]) S) : S[T.length + 1]? = some (some c) := by
  obtain ⟨B, _, rfl⟩ := z
  simp
theorem dr_new {c : List D} (z : Dr T S) : Dr (T ++ [some c]) (S ++ [some c]) ∧ S.length = T.length + 1 := by
  obtain ⟨B, ok, rfl⟩ := z
  exact ⟨⟨B, ok, rfl⟩, rfl⟩
theorem dr_set {c c' : List D} (z : Dr (T ++ [some c]) S) : Dr (T ++ [some c']) (S.set (T.length + 1) (some c')) := by
  obtain ⟨B, ok, rfl⟩ := z
  refine ⟨B, ok, ?_⟩
  simp
theorem l_part_d (N : Ns ns) (h1 : 1 ≤ many) (h8 : many ≤ 8) (z : Dz S) (k : ∀ d S', Dz S' → Fit 800 4 4 d → Q d S') : WF m_law_some_part [.loc 0, .lst ns, .int many] S Q := by
  have nl := N.len
  obtain ⟨T, z⟩ := z
  unfold m_law_some_part b_law_some_part
  walk_at "sl"
  refine l_take z (by omega) (by omega) fun v S1 v0 v1 z1 => ?_
  try walk_at "sl"
  rw [drop_up v0, take_up v0]
  have hv : v.toNat < ns.length := by omega
  have hl : (ns.drop v.toNat ++ ns.take v.toNat).length = ns.length := by
    rw [List.length_append, List.length_drop, List.length_take]
    omega
  have hm : ∀ d ∈ (ns.drop v.toNat ++ ns.take v.toNat), NmD d := fun d hd => by
    rcases List.mem_append.mp hd with h | h
    · exact N.nm d (List.mem_of_mem_drop h)
    · exact N.nm d (List.mem_of_mem_take h)
  refine ⟨by rw [List.length_drop, List.length_take]; omega, ?_⟩
  generalize (ns.drop v.toNat ++ ns.take v.toNat) = tn at hl hm ⊢
  refine l_take z1 (by decide) (by decide) fun w S2 w0 w1 z2 => wb_ix w0 (by exact w1) fun x hx => ?_
  obtain ⟨i, rfl, i1, i4⟩ : ∃ i : Nat, x = .int i ∧ 1 ≤ i ∧ i ≤ 4 := by
    revert x
    simp only [List.forall_mem_cons]
    exact ⟨⟨1, rfl, by decide, by decide⟩, ⟨2, rfl, by decide, by decide⟩, ⟨3, rfl, by decide, by decide⟩, ⟨3, rfl, by decide, by decide⟩, ⟨3, rfl, by decide, by decide⟩, ⟨4, rfl, by decide, by decide⟩, fun _ h => nomatch h⟩
  try walk_at "sl"
  rw [take_up (by omega), show ((i : Nat) : Int).toNat = i from rfl]
  have la : (tn.take i).length = i := by
    rw [List.length_take]
    omega
  have ma : ∀ d ∈ tn.take i, NmD d := fun d hd => hm d (List.mem_of_mem_take hd)
  generalize tn.take i = al at la ma ⊢
  refine ⟨by omega, ?_⟩
  refine wl_inv (P := Dr T) (R := Fit 30 2 2) z2 (fun d hd S3 z3 => ?_) fun rs S3 z3 hr fr => ?_
  · have hd := ma d hd
    walk_at "sl"
    refine l_refd N z3 fun r S4 z4 fr => ?_
    exact ⟨z4, (Fits.tup (Fits.cons (fit_nm hd (Nat.le_refl _)) (Fits.cons fr Fits.nil))).mono (by decide) (by decide) (by decide)⟩
  have frs := fits_all fr
  obtain ⟨z4, hn⟩ := dr_new (c := []) z3
  refine l_take z4 (by decide) (by decide) fun u1 S5 a0 a1 z5 => ?_
  refine l_take z5 (by decide) (by decide) fun u2 S6 b0 b1 z6 => ?_
  refine l_take z6 (by decide) (by decide) fun u3 S7 c0 c1 z7 => wb_ix c0 (by exact c1) fun x hx => ?_
  obtain ⟨j, rfl, j0, j1⟩ : ∃ j : Nat, x = .int j ∧ 0 ≤ j ∧ j ≤ 7 := by
    revert x
    simp only [List.forall_mem_cons]
    exact ⟨⟨u1.toNat, by rw [Int.toNat_of_nonneg a0], by omega, by omega⟩, ⟨u2.toNat, by rw [Int.toNat_of_nonneg b0], by omega, by omega⟩, fun _ h => nomatch h⟩
  try walk_at "sl"
  refine ⟨by omega, ?_⟩
  rw [hn, show ((j : Nat) : Int).toNat = j from rfl]
  refine wr_num (I := fun j ρ S => ∃ o7 o8 c, ρ = [some (.loc 0), some (.lst ns), some (.int many), some (.int v), some (.lst al), some (.tup rs), some (.loc (T.length + 1)), o7, o8, none] ∧ Dr (T ++ [some c]) S ∧ Fits (61 * j) 2 2 c ∧ c.length = j) 0 ⟨_, _, [], rfl, z7, Fits.nil, rfl⟩ ?_ ?_
  · rintro q d hd ρ S8 ⟨o7, o8, c, rfl, z8, fc, lc⟩
    have hq : q < j := by
      have := (List.getElem?_eq_some_iff.mp hd).1
      rwa [upTo_len] at this
    walk_at "sl"
    refine l_take z8 (by omega) (by omega) fun p1 S9 p0 pp z9 => wb_ix p0 pp fun x hx => ?_
    have hx := ma x hx
    refine l_take z9 (by omega) (by omega) fun p2 S10 r0 rr z10 => wb_name N r0 rr fun y hy => ?_
    try walk_at "sl"
    have cs : ∀ {S : Sto}, Dr (T ++ [some c]) S → cellAt (.loc (T.length + 1)) S = some (T.length + 1, c) := fun z => by
      exact SH.cellAt_of (cell_dr z)
    rw [cs z10]
    refine ⟨rfl, ?_⟩
    refine l_side_d N (by omega) ma z10 fun e S11 z11 fe => ?_
    try walk_at "sl"
    rw [cs z11]
    try walk_at "sl"
    refine ⟨by omega, _, _, _, rfl, dr_set z11, ?_, ?_⟩
    · have fo : Fit 30 1 1 (.tup [.str "of", x, y]) := (Fits.tup (h := 0) (t := 0) (Fits.cons (fit_str (n := 4) (by decide +kernel) (by decide +kernel)) (Fits.cons (fit_nm hx (Nat.le_refl _)) (Fits.cons (fit_nm hy (Nat.le_refl _)) Fits.nil)))).mono (by decide) (by decide) (by decide)
      have ft := Fits.tup (Fits.cons fo (Fits.cons fe Fits.nil))
      exact (Fits.app fc (Fits.cons ft Fits.nil)).mono (by omega) (by decide) (by decide)
    · rw [List.length_append, List.length_singleton]
      omega
  · rintro ρ S8 ⟨o7, o8, c, rfl, z8, fc, lc⟩
    rw [upTo_len] at fc lc
    walk_at "sl"
    rw [wf_tupC (cell_dr z8)]
    try walk_at "sl"
    refine ⟨by omega, ?_⟩
    rw [upTo_len]
    refine ⟨by omega, ?_⟩
    refine wl_inv (P := Dr (T ++ [some c])) (R := Fit 30 1 1) z8 (fun d hd S9 z9 => ?_) fun os S9 z9 ho fo => ?_
    · walk_at "sl"
      exact l_side_d N (by omega) ma z9 fun e S11 z11 fe => ⟨z11, fe⟩
    · try walk_at "sl"
      have fos := fits_all fo
      rw [upTo_len] at ho
      refine k _ _ ⟨_, z9⟩ ?_
      refine (Fits.tup (Fits.cons (Fits.tup (frs.mono (n' := 120) (h' := 2) (t' := 2) (by omega) (by decide) (by decide))) (Fits.cons (Fits.tup (fc.mono (n' := 427) (by omega) (Nat.le_refl _) (Nat.le_refl _))) (Fits.cons (Fits.tup (fos.mono (n' := 240) (h' := 2) (t' := 2) (by omega) (by decide) (by decide))) Fits.nil)))).mono (by decide) (by decide) (by decide)
end LAW
/-! K20F -/
namespace LAW
open PySem PySem.Spec PyProof.Rows L2 DL SH SW SX
local macro_rules | `(tactic| walk_at "sl") => `(tactic| simp only [we_var, we_c, we_bin, we_call, wa_nil, wa_cons, we_tup, we_lst, we_cel, we_dic, we_neg, wo_np, wo_pt, we_sl, we_isi, we_st0, we_din, we_dix, we_andV, we_orV, we_notV, we_if, we_chn, we_get2, wt_bl, wt_tr, wt_not, wt_and, wt_or, wt_yes, ws_next, ws_seq, ws_ret, ws_drop, ws_set, ws_if, ws_brk, ws_cnt, ws_asg, ws_par, ws_aug, wf_fn, wa_sq, wa_rg, we_app, we_ext, we_pop, on_some, intOf_int, strOf_str, blOf_bl, nx_nx, nx_rt, nx_bk, nx_ct, rt_rt, rt_nx, tn_nx, tn_ct, tn_bk, tn_rt, at_zero, at_succ, wipe_nil, wipe_cons, on_gN, on_gT, on_gNl, on_gCn, wb_addI, wb_addS, wb_addL, wb_addT, wb_subI, wb_mulI, wb_mulL, wb_mulS, wb_mulT, wb_mod, wb_div, wb_pow, wb_cmp, wb_eqI, wb_eqS, wb_eqB, wb_neI, wb_neS, wb_isN, wb_ixT0, wb_ixT1, wb_ixT2, wb_ixL0, wb_ixL1, wb_ixL2, wf_lenT, wf_lenL, wf_lenS, wf_intI, wf_intB, wf_tupL, wf_tupT, wf_lisT, wf_lisL, wf_min, slT, slL, slS, on_trB, on_trT, on_trL, itT, itL, itS, cut1, List.set_cons_zero, List.set_cons_succ, List.map_cons, List.map_nil, List.length_cons, List.length_nil, Nat.reduceAdd, Nat.reduceSub, List.replicate_succ, List.replicate_zero, List.cons_append, List.nil_append, List.append_nil, if_true, if_false, Bool.false_eq_true, Bool.not_true, Bool.not_false, List.getElem?_cons_zero, List.getElem?_cons_succ, List.drop_succ_cons, List.drop_zero, isOf_non, isOf_bl, isOf_int, isOf_str, isOf_tup, isOf_lst, isOf_rol, isOf_dct, isA, String.reduceBEq, Bool.or_self, Bool.false_or, Bool.or_false, Bool.and_false, Bool.false_and, Bool.and_true, Bool.true_and, Bool.true_or, Bool.or_true, Bool.and_self, ofs_beq, cast0, cast1, cast2, cast3, cast4, cast5, beq_self_eq_true, Int.reduceLE, Int.reduceLT, Int.reduceAdd, Int.reduceSub, Int.reduceNeg, decide_true, decide_false, we_lc, we_lcC, ws_for, Nat.reduceLeDiff, true_and, and_true, Int.reduceToNat, List.reduceReplicate, List.flatten_cons, List.flatten_nil, Nat.reduceMul, Nat.reducePow, abs10, getO_str, Nat.reduceLT])
variable {S T : Sto} {Q : D → Sto → Prop} {ρ : Env'}
/-! the sources of a query, each once -/
inductive Rf where
  | one (s : Str) | two (s t : Str)
  deriving DecidableEq
def Rf.d : Rf → D
  | .one s => .str s
  | .two s t => .tup [.str s, .str t]
def Rf.ok : Rf → Bool
  | .one s => nmB s
  | .two s t => nmB s && nmB t
def Rf.k : Rf → NestedKey
  | .one s => .text s
  | .two s t => .tup [.text s, .text t]
def rfOf : D → Rf
  | .str s => .one s
  | .tup [.str s, .str t] => .two s t
  | _ => .one ""
theorem rf_ref {d : DL.D} (h : refAny d = true) : d = (rfOf d).d ∧ (rfOf d).ok = true := by
  cases d <;> try (cases h; done)
  · exact ⟨rfl, h⟩
  · rename_i xs
    have h : (decide (xs.length = 2) && xs.all nmAny) = true := h
    rw [Bool.and_eq_true, decide_eq_true_eq] at h
    obtain ⟨x, y, rfl⟩ := len_2 h.1
    have h2 := h.2
    rw [List.all_cons, List.all_cons, List.all_nil, Bool.and_true, Bool.and_eq_true] at h2
    cases x <;> try (cases h2.1; done)
    cases y <;> try (cases h2.2; done)
    exact ⟨rfl, by show (_ && _) = true; rw [Bool.and_eq_true]; exact h2⟩
theorem nk_str {s : Str} (h : nmB s = true) : nk (.str s) = some (.text s) := by
  have : (D.str s).flat = true := nm_ok (nmb h)
  unfold nk
  rw [if_pos this]
theorem rf_nk : ∀ {r : Rf}, r.ok = true → nk r.d = some r.k
  | .one s, h => nk_str h
  | .two s t, h => by
    have h : (nmB s && nmB t) = true := h
    rw [Bool.and_eq_true] at h
    show nk (.tup [.str s, .str t]) = _
    unfold nk nks nks nks
    rw [nk_str h.1, nk_str h.2]
    rfl
theorem rf_inj : ∀ {r q : Rf}, r.k = q.k → r = q
  | .one s, .one t, h => by cases h; rfl
  | .one s, .two t u, h => by cases h
  | .two s t, .one u, h => by cases h
  | .two s t, .two u v, h => by cases h; rfl
theorem rf_dp : ∀ {r : Rf}, r.k.depth ≤ 8
  | .one s => by simp [Rf.k, NestedKey.depth]
  | .two s t => by simp [Rf.k, NestedKey.depth, NestedKey.depthAll]
theorem rf_fit : ∀ {r : Rf}, r.ok = true → Fit 20 1 1 r.d
  | .one s, h => fit_nm ⟨s, rfl, nmb h⟩ (by decide)
  | .two s t, h => by
    have h : (nmB s && nmB t) = true := h
    rw [Bool.and_eq_true] at h
    exact (Fits.tup (h := 0) (t := 0) (Fits.cons (fit_nm ⟨s, rfl, nmb h.1⟩ (Nat.le_refl _)) (Fits.cons (fit_nm ⟨t, rfl, nmb h.2⟩ (Nat.le_refl _)) Fits.nil))).mono (by decide) (by decide) (by decide)
def put (acc : List Rf) (r : Rf) : List Rf := if decide (r ∈ acc) = true then acc else acc ++ [r]
def firsts : List Rf → List Rf → List Rf
  | acc, [] => acc
  | acc, r :: rs => firsts (put acc r) rs
theorem put_ok {acc : List Rf} {r : Rf} (ho : r.ok = true) (ha : ∀ x ∈ acc, x.ok = true) : ∀ x ∈ put acc r, x.ok = true := fun x hx => by
  unfold put at hx
  split at hx
  · exact ha x hx
  · rcases List.mem_append.mp hx with h | h
    · exact ha x h
    · rw [List.mem_singleton.mp h]; exact ho
theorem put_len {acc : List Rf} {r : Rf} : (put acc r).length ≤ acc.length + 1 := by
  unfold put
  split <;> simp
theorem firsts_len : ∀ {rs acc : List Rf}, (firsts acc rs).length ≤ acc.length + rs.length
  | [], acc => Nat.le_refl _
  | r :: rs, acc => by
    have h := firsts_len (rs := rs) (acc := put acc r)
    have := put_len (acc := acc) (r := r)
    show (firsts (put acc r) rs).length ≤ _
    rw [List.length_cons]
    omega
theorem firsts_ok : ∀ {rs acc : List Rf}, (∀ x ∈ rs, x.ok = true) → (∀ x ∈ acc, x.ok = true) → ∀ x ∈ firsts acc rs, x.ok = true
  | [], acc, _, ha => ha
  | r :: rs, acc, hr, ha => firsts_ok (rs := rs) (fun x hx => hr x (List.mem_cons_of_mem _ hx)) (put_ok (hr r (List.mem_cons_self ..)) ha)
theorem mem_nk {acc : List Rf} {r : Rf} (ho : r.ok = true) (ha : ∀ x ∈ acc, x.ok = true) : (some r.k ∈ (acc.map Rf.d).map nk) ↔ r ∈ acc := by
  rw [List.map_map, List.mem_map]
  constructor
  · rintro ⟨x, hx, e⟩
    have e : nk x.d = some r.k := e
    rw [rf_nk (ha x hx)] at e
    have := rf_inj (Option.some.inj e)
    rwa [← this]
  · intro h
    exact ⟨r, h, rf_nk ho⟩
theorem addK_rf {acc : List Rf} {r : Rf} (ho : r.ok = true) (ha : ∀ x ∈ acc, x.ok = true) (hl : acc.length < 1000000) : addK (acc.map Rf.d) r.d = some ((put acc r).map Rf.d) := by
  unfold addK
  rw [rf_nk ho, Option.bind_some, if_pos ⟨rf_dp, by rw [List.length_map]; exact hl⟩]
  unfold put
  by_cases h : r ∈ acc
  · rw [if_pos (decide_eq_true ((mem_nk ho ha).mpr h)), if_pos (decide_eq_true h)]
  · rw [if_neg (fun z => h ((mem_nk ho ha).mp (of_decide_eq_true z))), if_neg (by simpa using h)]
    simp
def refOf : D → Rf
  | .tup [_, r] => rfOf r
  | _ => .one ""
def srcs : D → List D
  | .tup (.tup ss :: _) => ss
  | _ => []
theorem in_rf : ∀ {ss : List D} {acc : List Rf}, (∀ x ∈ ss, srcAny x = true) → (∀ x ∈ acc, x.ok = true) → acc.length + ss.length ≤ 1000000 → ∀ {q p : D},
    inL (gN 2) (mBin fIx (mVar 2) (mC (.int 1))) [some q, some p, none] ss (acc.map Rf.d) S = some ((firsts acc (ss.map refOf)).map Rf.d, S)
  | [], acc, _, _, _, q, p => rfl
  | x :: ss, acc, hs, ha, hl, q, p => by
    obtain ⟨s, y, rfl, hn, hy⟩ := src_shape (hs x (List.mem_cons_self ..))
    obtain ⟨e, ho⟩ := rf_ref hy
    rw [List.length_cons] at hl
    have e1 : mBin fIx (mVar 2) (mC (.int 1)) [some q, some p, some (.tup [.str s, y])] S = some (y, S) := rfl
    have e2 : addK (acc.map Rf.d) y = some ((put acc (rfOf y)).map Rf.d) := by
      have := addK_rf ho ha (by omega)
      rwa [← e] at this
    have pl := put_len (acc := acc) (r := rfOf y)
    have ih := in_rf (q := q) (p := p) (fun z hz => hs z (List.mem_cons_of_mem _ hz)) (put_ok ho ha) (ss := ss) (by omega)
    unfold inL
    rw [show gN 2 (.tup [.str s, y]) [some q, some p, none] = some [some q, some p, some (.tup [.str s, y])] from rfl, Option.bind_some, e1, Option.bind_some, e2, Option.bind_some]
    exact ih
def PartOk (p : D) : Prop := ∃ ss c o, p = .tup [.tup ss, c, o] ∧ (∀ x ∈ ss, srcAny x = true) ∧ ss.length ≤ 3
theorem part_ok {d : DL.D} (h : partAny d = true) : PartOk d := by
  obtain ⟨s, c, os, rfl⟩ := part_shape h
  have es : partAny (.tup [s, c, .tup os]) = (allOf 1 3 srcAny s && (decide (¬ unl ((itemsOf s).map aliOf) ((itemsOf s).map aliOf).length < ((itemsOf s).map aliOf).length) && (allOf 0 6 (cndAny ((itemsOf s).map aliOf)) c && allOf 1 6 (sideAny ((itemsOf s).map aliOf)) (.tup os)))) := rfl
  rw [es, Bool.and_eq_true] at h
  by_cases ht : isT s = true
  · obtain ⟨ss, rfl⟩ := tup_at ht
    have h1 := h.1
    rw [all_in, Bool.and_eq_true, Bool.and_eq_true, decide_eq_true_eq, decide_eq_true_eq] at h1
    exact ⟨ss, c, _, rfl, fun x hx => List.all_eq_true.mp h1.2 x hx, by omega⟩
  · have := h.1
    rw [all_no (by simpa using ht)] at this
    cases this
/-- all refs, as they stand -/
def refsP (ps : List D) : List Rf := (ps.map fun p => (srcs p).map refOf).flatten
theorem refs_ok : ∀ {ss : List D}, (∀ x ∈ ss, srcAny x = true) → ∀ r ∈ ss.map refOf, r.ok = true := fun {ss} h r hr => by
  obtain ⟨x, hx, rfl⟩ := List.mem_map.mp hr
  obtain ⟨s, y, rfl, _, hy⟩ := src_shape (h x hx)
  exact (rf_ref hy).2
theorem refsP_ok {ps : List D} (h : ∀ p ∈ ps, PartOk p) : ∀ r ∈ refsP ps, r.ok = true := fun r hr => by
  obtain ⟨l, hl, hr⟩ := List.mem_flatten.mp hr
  obtain ⟨p, hp, rfl⟩ := List.mem_map.mp hl
  obtain ⟨ss, c, o, rfl, hs, _⟩ := h p hp
  exact refs_ok hs r hr
theorem refsP_len : ∀ {ps : List D}, (∀ p ∈ ps, PartOk p) → (refsP ps).length ≤ 3 * ps.length
  | [], _ => Nat.le_refl _
  | p :: ps, h => by
    obtain ⟨ss, c, o, rfl, hs, hl⟩ := h p (List.mem_cons_self ..)
    have ih := refsP_len (ps := ps) fun x hx => h x (List.mem_cons_of_mem _ hx)
    show ((ss.map refOf) ++ refsP ps).length ≤ _
    rw [List.length_append, List.length_map, List.length_cons]
    omega
theorem out_rf : ∀ {ps : List D} {acc : List Rf}, (∀ p ∈ ps, PartOk p) → (∀ x ∈ acc, x.ok = true) → acc.length + 3 * ps.length ≤ 1000000 → ∀ {q : D},
    outL (gN 1) (mSq (mBin fIx (mVar 1) (mC (.int 0)))) (gN 2) (mBin fIx (mVar 2) (mC (.int 1))) [2] [some q, none, none] ps (acc.map Rf.d) S = some ((firsts acc (refsP ps)).map Rf.d, S)
  | [], acc, _, _, _, q => rfl
  | p :: ps, acc, h, ha, hl, q => by
    obtain ⟨ss, c, o, rfl, hs, h3⟩ := h p (List.mem_cons_self ..)
    rw [List.length_cons] at hl
    have e1 := in_rf (S := S) hs ha (by omega) (q := q) (p := .tup [.tup ss, c, o])
    have fl := firsts_len (rs := ss.map refOf) (acc := acc)
    rw [List.length_map] at fl
    have ih := out_rf (ps := ps) (acc := firsts acc (ss.map refOf)) (fun x hx => h x (List.mem_cons_of_mem _ hx)) (firsts_ok (refs_ok hs) ha) (by omega) (q := q)
    unfold outL
    show (inL (gN 2) (mBin fIx (mVar 2) (mC (.int 1))) [some q, some (.tup [.tup ss, c, o]), none] ss (acc.map Rf.d) S).bind _ = _
    rw [e1, Option.bind_some]
    have app : ∀ (x acc y : List Rf), firsts (firsts acc x) y = firsts acc (x ++ y) := by
      intro x
      induction x with
      | nil => intro acc y; rfl
      | cons a x ihx => intro acc y; exact ihx (put acc a) y
    show outL _ _ _ _ _ [some q, none, none] ps _ S = _
    rw [ih, app]
    rfl
theorem sources_in {ps : List D} (h : ∀ p ∈ ps, PartOk p) (hl : 3 * ps.length ≤ 1000000) : m_sources_in [.tup ps] S = some (.loc S.length, S ++ [some ((firsts [] (refsP ps)).map Rf.d)]) := by
  refine wf_eq ?_
  unfold m_sources_in b_sources_in
  rw [wf_fn]
  refine ws_ret.mpr ⟨_, _, ?_, rfl, rfl⟩
  unfold mTwoC
  have e := out_rf (S := S) (acc := []) h (fun _ h => nomatch h) (by simpa using hl) (q := .tup ps)
  show (outL _ _ _ _ _ [some (.tup ps), none, none] ps ([] : List D) S).bind _ = _
  have fl := firsts_len (rs := refsP ps) (acc := [])
  have rl := refsP_len h
  rw [show ([] : List D) = ([] : List Rf).map Rf.d from rfl, e, Option.bind_some]
  rw [if_pos (by
    show ((firsts [] (refsP ps)).map Rf.d).length ≤ 1000000
    rw [List.length_map]
    simp only [List.length_nil] at fl
    omega)]
/-! the law's own row of them -/
theorem rf_py : ∀ {r q : Rf}, PyData.eqv r.d.py q.d.py = decide (r = q)
  | .one s, .one t => by
    show (s == t) = _
    rw [Bool.eq_iff_iff]
    simp
  | .one s, .two t u => by
    show false = _
    simp
  | .two s t, .one u => by
    show false = _
    simp
  | .two s t, .two u v => by
    show ((s == u) && ((t == v) && true)) = _
    rw [Bool.eq_iff_iff]
    simp
theorem rf_cmp {r : Rf} (h : r.ok = true) : r.d.cmpb = true := by
  cases r with
  | one s =>
    have : (D.str s).flat = true := nm_ok (nmb h)
    show (_ && _) = true
    rw [show (Rf.one s).d = .str s from rfl, this]
    rfl
  | two s t =>
    have h : (nmB s && nmB t) = true := h
    rw [Bool.and_eq_true] at h
    have h1 : (D.str s).flat = true := nm_ok (nmb h.1)
    have h2 : (D.str t).flat = true := nm_ok (nmb h.2)
    show (D.flats [.str s, .str t] && _) = true
    unfold D.flats D.flats D.flats
    rw [h1, h2]
    rfl
theorem rfs_flat : ∀ {l : List Rf}, (∀ x ∈ l, x.ok = true) → D.flats (l.map Rf.d) = true ∧ PyData.depthAll (D.pys (l.map Rf.d)) ≤ 2
  | [], _ => ⟨rfl, by simp [D.pys, PyData.depthAll]⟩
  | x :: l, h => by
    have ih := rfs_flat (l := l) fun y hy => h y (List.mem_cons_of_mem _ hy)
    have c := rf_cmp (h x (List.mem_cons_self ..))
    have f := (rf_fit (h x (List.mem_cons_self ..))).dp
    unfold D.cmpb at c
    rw [Bool.and_eq_true] at c
    rw [List.map_cons]
    refine ⟨by unfold D.flats; rw [c.1, ih.1]; rfl, ?_⟩
    simp only [D.pys, PyData.depthAll]
    have := ih.2
    omega
theorem rfs_cmp {l : List Rf} (h : ∀ x ∈ l, x.ok = true) : (D.lst (l.map Rf.d)).cmpb = true := by
  obtain ⟨a, b⟩ := rfs_flat h
  unfold D.cmpb
  rw [Bool.and_eq_true, decide_eq_true_eq]
  refine ⟨a, ?_⟩
  simp only [D.py, PyData.depth]
  omega
theorem rf_any {r : Rf} : ∀ {l : List Rf}, ((D.pys (l.map Rf.d)).any fun z => PyData.eqv z r.d.py) = decide (r ∈ l)
  | [] => by simp [D.pys]
  | x :: l => by
    rw [List.map_cons]
    simp only [D.pys, List.any_cons]
    rw [rf_any (l := l), rf_py, Bool.eq_iff_iff, Bool.or_eq_true, decide_eq_true_eq, decide_eq_true_eq, decide_eq_true_eq, List.mem_cons]
    exact or_congr_left eq_comm
theorem eqs_d : ∀ {r q : Rf}, q.d.scal = true → r.d.scal = true → eqS q.d r.d = decide (q = r)
  | .one s, .one t, _, _ => by
    show (t == s) = _
    rw [Bool.eq_iff_iff]
    simp
  | .two s t, _, _, h => by cases h
  | .one s, .two t u, h, _ => by cases h
theorem wb_rf {r : Rf} {l : List Rf} (ho : r.ok = true) (hl : ∀ x ∈ l, x.ok = true) : WB (fIn true) r.d (.lst (l.map Rf.d)) S Q ↔ Q (.bl (!decide (r ∈ l))) S := by
  refine wb_is ?_
  have key : fIn true r.d (.lst (l.map Rf.d)) S = if r.d.scal = true ∧ (l.map Rf.d).all D.scal = true then some (.bl (!((l.map Rf.d).any fun z => eqS z r.d)), S)
        else if r.d.cmpb = true ∧ (D.lst (l.map Rf.d)).cmpb = true then some (.bl (!((D.pys (l.map Rf.d)).any fun z => PyData.eqv z r.d.py)), S) else none := by
    cases r <;> first | rfl | (unfold fIn; rfl)
  rw [key]
  by_cases hs : r.d.scal = true ∧ (l.map Rf.d).all D.scal = true
  · rw [if_pos hs]
    congr 4
    rw [Bool.eq_iff_iff, List.any_eq_true, decide_eq_true_eq]
    constructor
    · rintro ⟨z, hz, e⟩
      obtain ⟨q, hq, rfl⟩ := List.mem_map.mp hz
      rw [eqs_d (List.all_eq_true.mp hs.2 _ hz) hs.1, decide_eq_true_eq] at e
      rwa [← e]
    · intro h
      refine ⟨r.d, List.mem_map_of_mem h, ?_⟩
      rw [eqs_d hs.1 hs.1]
      simp
  · rw [if_neg hs, if_pos ⟨rf_cmp ho, rfs_cmp hl⟩, rf_any]
end LAW
/-! K20G -/
namespace LAW
open PySem PySem.Spec PyProof.Rows L2 DL SH SW SX
local macro_rules | `(tactic| walk_at "sl") => `(tactic| simp only [we_var, we_c, we_bin, we_call, wa_nil, wa_cons, we_tup, we_lst, we_cel, we_dic, we_neg, wo_np, wo_pt, we_sl, we_isi, we_st0, we_din, we_dix, we_andV, we_orV, we_notV, we_if, we_chn, we_get2, wt_bl, wt_tr, wt_not, wt_and, wt_or, wt_yes, ws_next, ws_seq, ws_ret, ws_drop, ws_set, ws_if, ws_brk, ws_cnt, ws_asg, ws_par, ws_aug, wf_fn, wa_sq, wa_rg, we_app, we_ext, we_pop, on_some, intOf_int, strOf_str, blOf_bl, nx_nx, nx_rt, nx_bk, nx_ct, rt_rt, rt_nx, tn_nx, tn_ct, tn_bk, tn_rt, at_zero, at_succ, wipe_nil, wipe_cons, on_gN, on_gT, on_gNl, on_gCn, wb_addI, wb_addS, wb_addL, wb_addT, wb_subI, wb_mulI, wb_mulL, wb_mulS, wb_mulT, wb_mod, wb_div, wb_pow, wb_cmp, wb_eqI, wb_eqS, wb_eqB, wb_neI, wb_neS, wb_isN, wb_ixT0, wb_ixT1, wb_ixT2, wb_ixL0, wb_ixL1, wb_ixL2, wf_lenT, wf_lenL, wf_lenS, wf_intI, wf_intB, wf_tupL, wf_tupT, wf_lisT, wf_lisL, wf_min, slT, slL, slS, on_trB, on_trT, on_trL, itT, itL, itS, cut1, List.set_cons_zero, List.set_cons_succ, List.map_cons, List.map_nil, List.length_cons, List.length_nil, Nat.reduceAdd, Nat.reduceSub, List.replicate_succ, List.replicate_zero, List.cons_append, List.nil_append, List.append_nil, if_true, if_false, Bool.false_eq_true, Bool.not_true, Bool.not_false, List.getElem?_cons_zero, List.getElem?_cons_succ, List.drop_succ_cons, List.drop_zero, isOf_non, isOf_bl, isOf_int, isOf_str, isOf_tup, isOf_lst, isOf_rol, isOf_dct, isA, String.reduceBEq, Bool.or_self, Bool.false_or, Bool.or_false, Bool.and_false, Bool.false_and, Bool.and_true, Bool.true_and, Bool.true_or, Bool.or_true, Bool.and_self, ofs_beq, cast0, cast1, cast2, cast3, cast4, cast5, beq_self_eq_true, Int.reduceLE, Int.reduceLT, Int.reduceAdd, Int.reduceSub, Int.reduceNeg, decide_true, decide_false, we_lc, we_lcC, ws_for, Nat.reduceLeDiff, true_and, and_true, Int.reduceToNat, List.reduceReplicate, List.flatten_cons, List.flatten_nil, Nat.reduceMul, Nat.reducePow, abs10, getO_str, Nat.reduceLT])
variable {S T : Sto} {Q : D → Sto → Prop} {ρ : Env'}
def tailU : List Rf → List Rf → List Rf
  | _, [] => []
  | pre, r :: suf => if decide (r ∈ pre) = true then tailU (pre ++ [r]) suf else r :: tailU (pre ++ [r]) suf
theorem firsts_tail : ∀ {suf u pre : List Rf}, (∀ x, x ∈ u ↔ x ∈ pre) → firsts u suf = u ++ tailU pre suf
  | [], u, pre, _ => (List.append_nil u).symm
  | r :: suf, u, pre, h => by
    unfold firsts tailU put
    by_cases hr : r ∈ pre
    · rw [if_pos (decide_eq_true hr), if_pos (decide_eq_true ((h r).mpr hr))]
      exact firsts_tail fun x => by
        rw [h x, List.mem_append, List.mem_singleton]
        exact ⟨.inl, fun z => z.elim id fun e => e ▸ hr⟩
    · rw [if_neg (by simpa using fun z => hr ((h r).mp z)), if_neg (by simpa using hr)]
      rw [firsts_tail (pre := pre ++ [r]) fun x => by rw [List.mem_append, List.mem_append, h x]]
      simp
theorem firsts_mem : ∀ {l u : List Rf} {x : Rf}, x ∈ u ∨ x ∈ l → x ∈ firsts u l
  | [], u, x, h => h.elim id fun z => nomatch z
  | r :: l, u, x, h => by
    refine firsts_mem (l := l) (u := put u r) ?_
    have hp : r ∈ put u r := by
      unfold put
      split
      · rename_i hh
        exact of_decide_eq_true hh
      · simp
    have hu : ∀ y ∈ u, y ∈ put u r := fun y hy => by
      unfold put
      split
      · exact hy
      · exact List.mem_append_left _ hy
    rcases h with h | h
    · exact .inl (hu x h)
    · rcases List.mem_cons.mp h with rfl | h
      · exact .inl hp
      · exact .inr h
theorem firsts_app : ∀ {x acc y : List Rf}, firsts (firsts acc x) y = firsts acc (x ++ y)
  | [], acc, y => rfl
  | a :: x, acc, y => firsts_app (x := x) (acc := put acc a)
theorem firsts_filter {acc : List Rf} : ∀ {l u : List Rf}, (∀ x ∈ acc, x ∈ u) → firsts u (l.filter fun x => !decide (x ∈ acc)) = firsts u l
  | [], u, _ => rfl
  | r :: l, u, h => by
    rw [List.filter_cons]
    by_cases hr : r ∈ acc
    · rw [if_neg (by simpa using hr), firsts_filter h]
      show _ = firsts (put u r) l
      unfold put
      rw [if_pos (decide_eq_true (h r hr))]
    · rw [if_pos (by simpa using hr)]
      show firsts (put u r) _ = firsts (put u r) l
      refine firsts_filter fun x hx => ?_
      unfold put
      split
      · exact h x hx
      · exact List.mem_append_left _ (h x hx)
def grow : List Rf → List D → List Rf
  | acc, [] => acc
  | acc, p :: ps => grow (acc ++ ((srcs p).map refOf).filter fun x => !decide (x ∈ acc)) ps
theorem grow_firsts : ∀ {ps : List D} {acc : List Rf}, firsts [] (grow acc ps) = firsts (firsts [] acc) (refsP ps)
  | [], acc => rfl
  | p :: ps, acc => by
    show firsts [] (grow (acc ++ ((srcs p).map refOf).filter fun x => !decide (x ∈ acc)) ps) = firsts (firsts [] acc) ((srcs p).map refOf ++ refsP ps)
    rw [grow_firsts, ← firsts_app, ← firsts_app, firsts_filter fun x hx => firsts_mem (.inr hx)]
theorem grow_ok : ∀ {ps : List D} {acc : List Rf}, (∀ p ∈ ps, PartOk p) → (∀ x ∈ acc, x.ok = true) → (∀ x ∈ grow acc ps, x.ok = true) ∧ (grow acc ps).length ≤ acc.length + 3 * ps.length
  | [], acc, _, ha => ⟨ha, Nat.le_refl _⟩
  | p :: ps, acc, h, ha => by
    obtain ⟨ss, c, o, rfl, hs, hl⟩ := h p (List.mem_cons_self ..)
    have ho := refs_ok hs
    have ih := grow_ok (ps := ps) (acc := acc ++ (ss.map refOf).filter fun x => !decide (x ∈ acc)) (fun x hx => h x (List.mem_cons_of_mem _ hx)) fun x hx => by
      rcases List.mem_append.mp hx with hx | hx
      · exact ha x hx
      · exact ho x (List.mem_filter.mp hx).1
    refine ⟨ih.1, Nat.le_trans ih.2 ?_⟩
    have := List.length_filter_le (fun x => !decide (x ∈ acc)) (ss.map refOf)
    rw [List.length_map] at this
    rw [List.length_append, List.length_cons]
    omega
theorem wl_late {o0 o2 o3 : Option D} {l : List Rf} (ol : ∀ x ∈ l, x.ok = true) (hl : l.length ≤ 999999) : ∀ (suf pre : List Rf) (j : Nat), j = pre.length → l = pre ++ suf → ∀ {QL : List D → Sto → Prop}, QL ((tailU pre suf).map Rf.d) S →
    SW.WL (gT 2 (gCn (gN 5) (gCn (gN 4) gNl))) (mBl (mBin (fIn true) (mVar 4) (mSl (mVar 1) mNoPart (mPart (mVar 5))))) (mVar 4) [o0, some (.lst (l.map Rf.d)), o2, o3, none, none] (numb j (suf.map Rf.d)) S QL
  | [], pre, j, hj, hn, QL, k => by
    simp only [List.map_nil, numb, wl_nil]
    exact k
  | x :: suf, pre, j, hj, hn, QL, k => by
    subst hj
    have e1 : (l.map Rf.d).take pre.length = pre.map Rf.d := by
      rw [hn, List.map_append, List.take_left' (by simp)]
    have e2 : pre.length + 1 = (pre ++ [x]).length := by simp
    have e3 : l = (pre ++ [x]) ++ suf := by rw [hn]; simp
    simp only [List.map_cons, numb]
    rw [wl_cons]
    walk_at "sl"
    have ox : x.ok = true := ol x (by rw [hn]; simp)
    have op : ∀ y ∈ pre, y.ok = true := fun y hy => ol y (by rw [hn]; exact List.mem_append_left _ hy)
    rw [cut_upto, e1, wb_rf ox op]
    try walk_at "sl"
    unfold tailU at k
    by_cases hx : x ∈ pre
    · rw [decide_eq_true hx] at k ⊢
      simp only [if_true, Bool.not_true, Bool.false_eq_true, if_false] at k ⊢
      exact wl_late ol hl suf (pre ++ [x]) _ e2 e3 k
    · rw [decide_eq_false hx] at k ⊢
      simp only [Bool.false_eq_true, if_false, Bool.not_false, if_true] at k ⊢
      try walk_at "sl"
      exact wl_late ol hl suf (pre ++ [x]) _ e2 e3 k
theorem wr_grow {q : D} : ∀ (ps : List D) (acc : List Rf) {o2 o3 o4 : Option D} {QS : Fl → Sto → Prop}, (∀ p ∈ ps, PartOk p) → (∀ x ∈ acc, x.ok = true) → acc.length + 3 * ps.length ≤ 1000000 →
    (∀ o2' o3' o4', QS (.nx [some q, some (.lst ((grow acc ps).map Rf.d)), o2', o3', o4', none]) S) →
    WR (gN 2) (sSet 1 (mBin fAdd (mVar 1) (mLc (mSq (mBin fIx (mVar 2) (mC (.int 0)))) (gT 2 (gCn (gN 3) (gCn (gN 4) gNl))) (mBl (mBin (fIn true) (mVar 4) (mVar 1))) (mVar 4) [3, 4]))) ps [some q, some (.lst (acc.map Rf.d)), o2, o3, o4, none] S QS
  | [], acc, o2, o3, o4, QS, _, _, _, k => by
    rw [wr_nil]
    exact k o2 o3 o4
  | p :: ps, acc, o2, o3, o4, QS, h, ha, hl, k => by
    obtain ⟨ss, c, o, rfl, hs, h3⟩ := h p (List.mem_cons_self ..)
    have ho := refs_ok hs
    rw [List.length_cons] at hl
    rw [wr_cons, on_gN]
    walk_at "sl"
    refine ⟨by omega, wl_sel (p := fun x => !decide (refOf x ∈ acc)) (f := fun x => (refOf x).d) (fun u hu => ?_) ?_⟩
    · obtain ⟨s, y, rfl, _, hy⟩ := src_shape (hs u hu)
      obtain ⟨e, oy⟩ := rf_ref hy
      have er : refOf (.tup [.str s, y]) = rfOf y := rfl
      rw [er]
      walk_at "sl"
      rw [e, wb_rf oy ha]
      try walk_at "sl"
      rw [← e]
      first | exact ⟨rfl, e⟩ | exact ⟨rfl, rfl, e, rfl⟩
    · try walk_at "sl"
      have e1 : (List.filter (fun x => !decide (refOf x ∈ acc)) ss).map (fun x => (refOf x).d) = (((ss.map refOf).filter fun x => !decide (x ∈ acc))).map Rf.d := by
        rw [List.filter_map, List.map_map]
        rfl
      have lf := List.length_filter_le (fun x => !decide (x ∈ acc)) (ss.map refOf)
      rw [List.length_map] at lf
      rw [e1, List.length_map, List.length_map, ← List.map_append]
      refine ⟨by omega, ?_⟩
      refine wr_grow ps _ (fun x hx => h x (List.mem_cons_of_mem _ hx)) (fun x hx => ?_) (by rw [List.length_append]; omega) k
      rcases List.mem_append.mp hx with hx | hx
      · exact ha x hx
      · exact ho x (List.mem_filter.mp hx).1
theorem l_sources {ps : List D} (h : ∀ p ∈ ps, PartOk p) (hl : 3 * ps.length ≤ 999999) : m_law_sources [.tup ps] S = some (.lst ((firsts [] (refsP ps)).map Rf.d), S) := by
  refine wf_eq ?_
  unfold m_law_sources b_law_sources
  walk_at "sl"
  refine wr_grow ps [] h (fun _ h => nomatch h) (by simpa using by omega) fun o2 o3 o4 => ?_
  obtain ⟨g1, g2⟩ := grow_ok (ps := ps) (acc := []) h (fun _ h => nomatch h)
  simp only [List.length_nil] at g2
  walk_at "sl"
  rw [wa_en]
  walk_at "sl"
  simp only [rowOf, on_some]
  refine ⟨by rw [numb_len, List.length_map]; omega, ?_⟩
  refine wl_late g1 (by omega) _ [] 0 rfl rfl ?_
  have e := grow_firsts (ps := ps) (acc := [])
  rw [firsts_tail (pre := []) (fun _ => Iff.rfl), List.nil_append] at e
  rw [e]
  first | exact ⟨rfl, rfl⟩ | rfl
end LAW
/-! K20P -/
namespace LAW
open PySem PySem.Spec PyProof.Rows L2 DL
/-! ### the text -/
def topS (i : Nat) : Stmt := PySem.Challenge.pw_leancatalog_k20_queries_known.main.body.getD i (.Pass ⟨0, 0, 0, 0⟩)
abbrev st_is_tuple : Stmt := topS 4
def N_is_tuple : List Str := ["thing", "least", "most"]
theorem sc_is_tuple : FnScope N_is_tuple ["thing", "least", "most"] (defScope st_is_tuple) := ⟨rfl, rfl, rfl, by decide +kernel, rfl, by decide +kernel, by decide +kernel⟩
abbrev st_is_name : Stmt := topS 3
def N_is_name : List Str := ["thing"]
theorem sc_is_name : FnScope N_is_name ["thing"] (defScope st_is_name) := ⟨rfl, rfl, rfl, by decide +kernel, rfl, by decide +kernel, by decide +kernel⟩
abbrev st_is_ref : Stmt := topS 5
def N_is_ref : List Str := ["thing"]
theorem sc_is_ref : FnScope N_is_ref ["thing"] (defScope st_is_ref) := ⟨rfl, rfl, rfl, by decide +kernel, rfl, by decide +kernel, by decide +kernel⟩
abbrev st_is_source : Stmt := topS 11
def N_is_source : List Str := ["thing"]
theorem sc_is_source : FnScope N_is_source ["thing"] (defScope st_is_source) := ⟨rfl, rfl, rfl, by decide +kernel, rfl, by decide +kernel, by decide +kernel⟩
abbrev st_is_integer : Stmt := topS 2
def N_is_integer : List Str := ["thing"]
theorem sc_is_integer : FnScope N_is_integer ["thing"] (defScope st_is_integer) := ⟨rfl, rfl, rfl, by decide +kernel, rfl, by decide +kernel, by decide +kernel⟩
abbrev st_is_constant : Stmt := topS 9
def N_is_constant : List Str := ["thing", "word", "part"]
theorem sc_is_constant : FnScope N_is_constant ["thing"] (defScope st_is_constant) := ⟨rfl, rfl, rfl, by decide +kernel, rfl, by decide +kernel, by decide +kernel⟩
abbrev st_is_field : Stmt := topS 12
def N_is_field : List Str := ["thing", "aliases", "part"]
theorem sc_is_field : FnScope N_is_field ["thing", "aliases"] (defScope st_is_field) := ⟨rfl, rfl, rfl, by decide +kernel, rfl, by decide +kernel, by decide +kernel⟩
abbrev st_is_side : Stmt := topS 13
def N_is_side : List Str := ["thing", "aliases"]
theorem sc_is_side : FnScope N_is_side ["thing", "aliases"] (defScope st_is_side) := ⟨rfl, rfl, rfl, by decide +kernel, rfl, by decide +kernel, by decide +kernel⟩
abbrev st_is_condition : Stmt := topS 14
def N_is_condition : List Str := ["thing", "aliases"]
theorem sc_is_condition : FnScope N_is_condition ["thing", "aliases"] (defScope st_is_condition) := ⟨rfl, rfl, rfl, by decide +kernel, rfl, by decide +kernel, by decide +kernel⟩
abbrev st_is_part : Stmt := topS 15
def N_is_part : List Str := ["thing", "sources", "conditions", "outputs", "aliases", "source", "condition", "output"]
theorem sc_is_part : FnScope N_is_part ["thing"] (defScope st_is_part) := ⟨rfl, rfl, rfl, by decide +kernel, rfl, by decide +kernel, by decide +kernel⟩
abbrev st_is_query : Stmt := topS 16
def N_is_query : List Str := ["thing", "part"]
theorem sc_is_query : FnScope N_is_query ["thing"] (defScope st_is_query) := ⟨rfl, rfl, rfl, by decide +kernel, rfl, by decide +kernel, by decide +kernel⟩
abbrev st_sources_in : Stmt := topS 17
def N_sources_in : List Str := ["query", "part", "source"]
theorem sc_sources_in : FnScope N_sources_in ["query"] (defScope st_sources_in) := ⟨rfl, rfl, rfl, by decide +kernel, rfl, by decide +kernel, by decide +kernel⟩
abbrev st_law_bag : Stmt := topS 19
def N_law_bag : List Str := ["_law_script", "_law_cell"]
theorem sc_law_bag : FnScope N_law_bag ["_law_script"] (defScope st_law_bag) := ⟨rfl, rfl, rfl, by decide +kernel, rfl, by decide +kernel, by decide +kernel⟩
abbrev st_law_take : Stmt := topS 20
def N_law_take : List Str := ["_law_bag_here", "_law_many", "_law_cell", "_law_value", "_law_begin", "_law_second"]
theorem sc_law_take : FnScope N_law_take ["_law_bag_here", "_law_many"] (defScope st_law_take) := ⟨rfl, rfl, rfl, by decide +kernel, rfl, by decide +kernel, by decide +kernel⟩
abbrev st_law_alike : Stmt := topS 21
def N_law_alike : List Str := ["_law_found", "_law_due"]
theorem sc_law_alike : FnScope N_law_alike ["_law_found", "_law_due"] (defScope st_law_alike) := ⟨rfl, rfl, rfl, by decide +kernel, rfl, by decide +kernel, by decide +kernel⟩
abbrev st_law_names : Stmt := topS 22
def N_law_names : List Str := ["_law_bag_here", "_law_many", "_law_letters", "_law_words", "_law_way", "_law_turn", "_law_base", "_law_at", "_law_k"]
theorem sc_law_names : FnScope N_law_names ["_law_bag_here", "_law_many"] (defScope st_law_names) := ⟨rfl, rfl, rfl, by decide +kernel, rfl, by decide +kernel, by decide +kernel⟩
abbrev st_law_bent : Stmt := topS 27
def N_law_bent : List Str := ["_law_bag_here", "_law_thing", "_law_odd", "_law_one", "_law_way", "_law_at", "_law_inner"]
theorem sc_law_bent : FnScope N_law_bent ["_law_bag_here", "_law_thing"] (defScope st_law_bent) := ⟨rfl, rfl, rfl, by decide +kernel, rfl, by decide +kernel, by decide +kernel⟩
abbrev st_law_is_name : Stmt := topS 24
def N_law_is_name : List Str := ["_law_thing", "_law_letters", "_law_sign"]
theorem sc_law_is_name : FnScope N_law_is_name ["_law_thing"] (defScope st_law_is_name) := ⟨rfl, rfl, rfl, by decide +kernel, rfl, by decide +kernel, by decide +kernel⟩
abbrev st_law_is_ref : Stmt := topS 25
def N_law_is_ref : List Str := ["_law_thing"]
theorem sc_law_is_ref : FnScope N_law_is_ref ["_law_thing"] (defScope st_law_is_ref) := ⟨rfl, rfl, rfl, by decide +kernel, rfl, by decide +kernel, by decide +kernel⟩
abbrev st_law_whole : Stmt := topS 23
def N_law_whole : List Str := ["_law_thing", "_law_low", "_law_high"]
theorem sc_law_whole : FnScope N_law_whole ["_law_thing", "_law_low", "_law_high"] (defScope st_law_whole) := ⟨rfl, rfl, rfl, by decide +kernel, rfl, by decide +kernel, by decide +kernel⟩
abbrev st_law_is_side : Stmt := topS 28
def N_law_is_side : List Str := ["_law_thing", "_law_aliases"]
theorem sc_law_is_side : FnScope N_law_is_side ["_law_thing", "_law_aliases"] (defScope st_law_is_side) := ⟨rfl, rfl, rfl, by decide +kernel, rfl, by decide +kernel, by decide +kernel⟩
abbrev st_law_is_part : Stmt := topS 29
def N_law_is_part : List Str := ["_law_thing", "_law_sources_here", "_law_conditions", "_law_outputs", "_law_aliases", "_law_source", "_law_pair", "_law_row", "_law_side"]
theorem sc_law_is_part : FnScope N_law_is_part ["_law_thing"] (defScope st_law_is_part) := ⟨rfl, rfl, rfl, by decide +kernel, rfl, by decide +kernel, by decide +kernel⟩
abbrev st_law_is_query : Stmt := topS 30
def N_law_is_query : List Str := ["_law_thing", "_law_part"]
theorem sc_law_is_query : FnScope N_law_is_query ["_law_thing"] (defScope st_law_is_query) := ⟨rfl, rfl, rfl, by decide +kernel, rfl, by decide +kernel, by decide +kernel⟩
abbrev st_law_ref : Stmt := topS 26
def N_law_ref : List Str := ["_law_bag_here", "_law_names_here", "_law_one", "_law_other", "_law_k"]
theorem sc_law_ref : FnScope N_law_ref ["_law_bag_here", "_law_names_here"] (defScope st_law_ref) := ⟨rfl, rfl, rfl, by decide +kernel, rfl, by decide +kernel, by decide +kernel⟩
abbrev st_law_some_side : Stmt := topS 31
def N_law_some_side : List Str := ["_law_bag_here", "_law_names_here", "_law_aliases", "_law_column", "_law_some"]
theorem sc_law_some_side : FnScope N_law_some_side ["_law_bag_here", "_law_names_here", "_law_aliases"] (defScope st_law_some_side) := ⟨rfl, rfl, rfl, by decide +kernel, rfl, by decide +kernel, by decide +kernel⟩
abbrev st_law_some_part : Stmt := topS 32
def N_law_some_part : List Str := ["_law_bag_here", "_law_names_here", "_law_many", "_law_turn", "_law_aliases", "_law_sources_here", "_law_pairs", "_law_k", "_law_left", "_law_alias"]
theorem sc_law_some_part : FnScope N_law_some_part ["_law_bag_here", "_law_names_here", "_law_many"] (defScope st_law_some_part) := ⟨rfl, rfl, rfl, by decide +kernel, rfl, by decide +kernel, by decide +kernel⟩
abbrev st_law_sources : Stmt := topS 33
def N_law_sources : List Str := ["_law_query", "_law_found", "_law_part", "_law_alias", "_law_ref_here", "_law_at"]
theorem sc_law_sources : FnScope N_law_sources ["_law_query"] (defScope st_law_sources) := ⟨rfl, rfl, rfl, by decide +kernel, rfl, by decide +kernel, by decide +kernel⟩
abbrev st_law : Stmt := topS 34
def N_law : List Str := ["_law_script", "_law_bag_here", "_law_turn", "_law_names_here", "_law_many", "_law_query", "_law_other", "_law_odd", "_law_thing", "_law_kept", "_law_again", "_law_found", "_law_k"]
theorem sc_law : FnScope N_law ["_law_script"] (defScope st_law) := ⟨rfl, rfl, rfl, by decide +kernel, rfl, by decide +kernel, by decide +kernel⟩
/-! ### what the top leaves -/
structure Txt (K : PySem.W.Frag) (w : World) (mg : Str → Option Value) where
  {a_is_tuple : Addr} {d_is_tuple : FuncData} (f_is_tuple : Fun K "is_tuple" "is_tuple" st_is_tuple a_is_tuple d_is_tuple) (g_is_tuple : mg "is_tuple" = some (.ref a_is_tuple)) (b_is_tuple : Binds K d_is_tuple ["thing", "least", "most"] [])
  {a_is_name : Addr} {d_is_name : FuncData} (f_is_name : Fun K "is_name" "is_name" st_is_name a_is_name d_is_name) (g_is_name : mg "is_name" = some (.ref a_is_name)) (b_is_name : Binds K d_is_name ["thing"] [])
  {a_is_ref : Addr} {d_is_ref : FuncData} (f_is_ref : Fun K "is_ref" "is_ref" st_is_ref a_is_ref d_is_ref) (g_is_ref : mg "is_ref" = some (.ref a_is_ref)) (b_is_ref : Binds K d_is_ref ["thing"] [])
  {a_is_source : Addr} {d_is_source : FuncData} (f_is_source : Fun K "is_source" "is_source" st_is_source a_is_source d_is_source) (g_is_source : mg "is_source" = some (.ref a_is_source)) (b_is_source : Binds K d_is_source ["thing"] [])
  {a_is_integer : Addr} {d_is_integer : FuncData} (f_is_integer : Fun K "is_integer" "is_integer" st_is_integer a_is_integer d_is_integer) (g_is_integer : mg "is_integer" = some (.ref a_is_integer)) (b_is_integer : Binds K d_is_integer ["thing"] [])
  {a_is_constant : Addr} {d_is_constant : FuncData} (f_is_constant : Fun K "is_constant" "is_constant" st_is_constant a_is_constant d_is_constant) (g_is_constant : mg "is_constant" = some (.ref a_is_constant)) (b_is_constant : Binds K d_is_constant ["thing"] [])
  {a_is_field : Addr} {d_is_field : FuncData} (f_is_field : Fun K "is_field" "is_field" st_is_field a_is_field d_is_field) (g_is_field : mg "is_field" = some (.ref a_is_field)) (b_is_field : Binds K d_is_field ["thing", "aliases"] [])
  {a_is_side : Addr} {d_is_side : FuncData} (f_is_side : Fun K "is_side" "is_side" st_is_side a_is_side d_is_side) (g_is_side : mg "is_side" = some (.ref a_is_side)) (b_is_side : Binds K d_is_side ["thing", "aliases"] [])
  {a_is_condition : Addr} {d_is_condition : FuncData} (f_is_condition : Fun K "is_condition" "is_condition" st_is_condition a_is_condition d_is_condition) (g_is_condition : mg "is_condition" = some (.ref a_is_condition)) (b_is_condition : Binds K d_is_condition ["thing", "aliases"] [])
  {a_is_part : Addr} {d_is_part : FuncData} (f_is_part : Fun K "is_part" "is_part" st_is_part a_is_part d_is_part) (g_is_part : mg "is_part" = some (.ref a_is_part)) (b_is_part : Binds K d_is_part ["thing"] [])
  {a_is_query : Addr} {d_is_query : FuncData} (f_is_query : Fun K "is_query" "is_query" st_is_query a_is_query d_is_query) (g_is_query : mg "is_query" = some (.ref a_is_query)) (b_is_query : Binds K d_is_query ["thing"] [])
  {a_sources_in : Addr} {d_sources_in : FuncData} (f_sources_in : Fun K "sources_in" "sources_in" st_sources_in a_sources_in d_sources_in) (g_sources_in : mg "sources_in" = some (.ref a_sources_in)) (b_sources_in : Binds K d_sources_in ["query"] [])
  {a_law_bag : Addr} {d_law_bag : FuncData} (f_law_bag : Fun K "_law_bag" "_law_bag" st_law_bag a_law_bag d_law_bag) (g_law_bag : mg "_law_bag" = some (.ref a_law_bag)) (b_law_bag : Binds K d_law_bag ["_law_script"] [])
  {a_law_take : Addr} {d_law_take : FuncData} (f_law_take : Fun K "_law_take" "_law_take" st_law_take a_law_take d_law_take) (g_law_take : mg "_law_take" = some (.ref a_law_take)) (b_law_take : Binds K d_law_take ["_law_bag_here", "_law_many"] [])
  {a_law_alike : Addr} {d_law_alike : FuncData} (f_law_alike : Fun K "_law_alike" "_law_alike" st_law_alike a_law_alike d_law_alike) (g_law_alike : mg "_law_alike" = some (.ref a_law_alike)) (b_law_alike : Binds K d_law_alike ["_law_found", "_law_due"] [])
  {a_law_names : Addr} {d_law_names : FuncData} (f_law_names : Fun K "_law_names" "_law_names" st_law_names a_law_names d_law_names) (g_law_names : mg "_law_names" = some (.ref a_law_names)) (b_law_names : Binds K d_law_names ["_law_bag_here", "_law_many"] [])
  {a_law_bent : Addr} {d_law_bent : FuncData} (f_law_bent : Fun K "_law_bent" "_law_bent" st_law_bent a_law_bent d_law_bent) (g_law_bent : mg "_law_bent" = some (.ref a_law_bent)) (b_law_bent : Binds K d_law_bent ["_law_bag_here", "_law_thing"] [])
  {a_law_is_name : Addr} {d_law_is_name : FuncData} (f_law_is_name : Fun K "_law_is_name" "_law_is_name" st_law_is_name a_law_is_name d_law_is_name) (g_law_is_name : mg "_law_is_name" = some (.ref a_law_is_name)) (b_law_is_name : Binds K d_law_is_name ["_law_thing"] [])
  {a_law_is_ref : Addr} {d_law_is_ref : FuncData} (f_law_is_ref : Fun K "_law_is_ref" "_law_is_ref" st_law_is_ref a_law_is_ref d_law_is_ref) (g_law_is_ref : mg "_law_is_ref" = some (.ref a_law_is_ref)) (b_law_is_ref : Binds K d_law_is_ref ["_law_thing"] [])
  {a_law_whole : Addr} {d_law_whole : FuncData} (f_law_whole : Fun K "_law_whole" "_law_whole" st_law_whole a_law_whole d_law_whole) (g_law_whole : mg "_law_whole" = some (.ref a_law_whole)) (b_law_whole : Binds K d_law_whole ["_law_thing", "_law_low", "_law_high"] [])
  {a_law_is_side : Addr} {d_law_is_side : FuncData} (f_law_is_side : Fun K "_law_is_side" "_law_is_side" st_law_is_side a_law_is_side d_law_is_side) (g_law_is_side : mg "_law_is_side" = some (.ref a_law_is_side)) (b_law_is_side : Binds K d_law_is_side ["_law_thing", "_law_aliases"] [])
  {a_law_is_part : Addr} {d_law_is_part : FuncData} (f_law_is_part : Fun K "_law_is_part" "_law_is_part" st_law_is_part a_law_is_part d_law_is_part) (g_law_is_part : mg "_law_is_part" = some (.ref a_law_is_part)) (b_law_is_part : Binds K d_law_is_part ["_law_thing"] [])
  {a_law_is_query : Addr} {d_law_is_query : FuncData} (f_law_is_query : Fun K "_law_is_query" "_law_is_query" st_law_is_query a_law_is_query d_law_is_query) (g_law_is_query : mg "_law_is_query" = some (.ref a_law_is_query)) (b_law_is_query : Binds K d_law_is_query ["_law_thing"] [])
  {a_law_ref : Addr} {d_law_ref : FuncData} (f_law_ref : Fun K "_law_ref" "_law_ref" st_law_ref a_law_ref d_law_ref) (g_law_ref : mg "_law_ref" = some (.ref a_law_ref)) (b_law_ref : Binds K d_law_ref ["_law_bag_here", "_law_names_here"] [])
  {a_law_some_side : Addr} {d_law_some_side : FuncData} (f_law_some_side : Fun K "_law_some_side" "_law_some_side" st_law_some_side a_law_some_side d_law_some_side) (g_law_some_side : mg "_law_some_side" = some (.ref a_law_some_side)) (b_law_some_side : Binds K d_law_some_side ["_law_bag_here", "_law_names_here", "_law_aliases"] [])
  {a_law_some_part : Addr} {d_law_some_part : FuncData} (f_law_some_part : Fun K "_law_some_part" "_law_some_part" st_law_some_part a_law_some_part d_law_some_part) (g_law_some_part : mg "_law_some_part" = some (.ref a_law_some_part)) (b_law_some_part : Binds K d_law_some_part ["_law_bag_here", "_law_names_here", "_law_many"] [])
  {a_law_sources : Addr} {d_law_sources : FuncData} (f_law_sources : Fun K "_law_sources" "_law_sources" st_law_sources a_law_sources d_law_sources) (g_law_sources : mg "_law_sources" = some (.ref a_law_sources)) (b_law_sources : Binds K d_law_sources ["_law_query"] [])
  {a_law : Addr} {d_law : FuncData} (f_law : Fun K "law" "law" st_law a_law d_law) (g_law : mg "law" = some (.ref a_law)) (b_law : Binds K d_law ["_law_script"] [])
  (n_abs : mg "abs" = none)
  (n_all : mg "all" = none)
  (n_bool : mg "bool" = none)
  (n_enumerate : mg "enumerate" = none)
  (n_int : mg "int" = none)
  (n_isinstance : mg "isinstance" = none)
  (n_len : mg "len" = none)
  (n_list : mg "list" = none)
  (n_range : mg "range" = none)
  (n_repr : mg "repr" = none)
  (n_set : mg "set" = none)
  (n_str : mg "str" = none)
  (n_tuple : mg "tuple" = none)
  {k_LONGEST_NAME : Tok} (g_LONGEST_NAME : mg "LONGEST_NAME" = some (.int 8 k_LONGEST_NAME))
  {k_LONGEST_TEXT : Tok} (g_LONGEST_TEXT : mg "LONGEST_TEXT" = some (.int 20 k_LONGEST_TEXT))
  {k_LARGEST : Tok} (g_LARGEST : mg "LARGEST" = some (.int 1000000000000000000 k_LARGEST))
section
variable {P : Program} {w : World} {K : PySem.W.Frag} {mg : Str → Option Value} {base : Heap}
set_option maxHeartbeats 4000000 in
theorem ok_is_tuple (T : Txt K w mg) : FnG P w K mg base 1 T.a_is_tuple T.d_is_tuple ["thing", "least", "most"] m_is_tuple := fnG_of T.f_is_tuple sc_is_tuple fun cdv A out s H hr hgd => by
  have nd := sc_is_tuple.nd
  have hu := hr.units
  have hv := u65 hr
  exact
    (ss_one (s_ret (d_and (d_isi (T := "tuple") (by decide +kernel) T.n_isinstance T.n_tuple (d_var 0)) (d_one (d_chn op_le op_le f_cmp f_cmp fCmp_bl (d_var 1) (d_callB call_len c_len T.n_len (a_cons (d_var 0) a_nil)) (d_var 2))))))
set_option maxHeartbeats 4000000 in
theorem ok_is_name (T : Txt K w mg) : FnG P w K mg base 1 T.a_is_name T.d_is_name ["thing"] m_is_name := fnG_of T.f_is_name sc_is_name fun cdv A out s H hr hgd => by
  have nd := sc_is_name.nd
  have hu := hr.units
  have hv := u65 hr
  exact
    (ss_cons (s_if ((w_or (t_not (t_tr (d_isi (T := "str") (by decide +kernel) T.n_isinstance T.n_str (d_var 0)))) (w_or1 (t_cmp op_gt f_cmp (d_callB call_len c_len T.n_len (a_cons (d_var 0) a_nil)) (d_gint T.g_LONGEST_NAME) (nomark _))))).pt (ss_one (s_ret d_bl)) ss_nil)
    (ss_one (s_ret (d_and (d_isascii (d_var 0)) (d_and (d_isalpha (d_var 0)) (d_one (d_islower (d_var 0))))))))
set_option maxHeartbeats 4000000 in
theorem ok_is_ref (T : Txt K w mg) : FnG P w K mg base 2 T.a_is_ref T.d_is_ref ["thing"] m_is_ref := fnG_of T.f_is_ref sc_is_ref fun cdv A out s H hr hgd => by
  have nd := sc_is_ref.nd
  have hu := hr.units
  have hv := u65 hr
  exact
    (ss_one (s_ret (d_or (d_call (ok_is_name T) (hr.mono (by decide)) hgd T.g_is_name T.f_is_name.kp T.b_is_name (len_cons len_nil) (a_cons (d_var 0) a_nil)) (d_one (d_and (d_call (ok_is_tuple T) (hr.mono (by decide)) hgd T.g_is_tuple T.f_is_tuple.kp T.b_is_tuple (len_cons (len_cons (len_cons len_nil))) (a_cons (d_var 0) (a_cons d_int (a_cons d_int a_nil)))) (d_and (d_call (ok_is_name T) (hr.mono (by decide)) hgd T.g_is_name T.f_is_name.kp T.b_is_name (len_cons len_nil) (a_cons (d_ix (d_var 0) d_int) a_nil)) (d_one (d_call (ok_is_name T) (hr.mono (by decide)) hgd T.g_is_name T.f_is_name.kp T.b_is_name (len_cons len_nil) (a_cons (d_ix (d_var 0) d_int) a_nil)))))))))
set_option maxHeartbeats 4000000 in
theorem ok_is_source (T : Txt K w mg) : FnG P w K mg base 3 T.a_is_source T.d_is_source ["thing"] m_is_source := fnG_of T.f_is_source sc_is_source fun cdv A out s H hr hgd => by
  have nd := sc_is_source.nd
  have hu := hr.units
  have hv := u65 hr
  exact
    (ss_one (s_ret (d_and (d_call (ok_is_tuple T) (hr.mono (by decide)) hgd T.g_is_tuple T.f_is_tuple.kp T.b_is_tuple (len_cons (len_cons (len_cons len_nil))) (a_cons (d_var 0) (a_cons d_int (a_cons d_int a_nil)))) (d_and (d_call (ok_is_name T) (hr.mono (by decide)) hgd T.g_is_name T.f_is_name.kp T.b_is_name (len_cons len_nil) (a_cons (d_ix (d_var 0) d_int) a_nil)) (d_one (d_call (ok_is_ref T) (hr.mono (by decide)) hgd T.g_is_ref T.f_is_ref.kp T.b_is_ref (len_cons len_nil) (a_cons (d_ix (d_var 0) d_int) a_nil)))))))
set_option maxHeartbeats 4000000 in
theorem ok_is_integer (T : Txt K w mg) : FnG P w K mg base 1 T.a_is_integer T.d_is_integer ["thing"] m_is_integer := fnG_of T.f_is_integer sc_is_integer fun cdv A out s H hr hgd => by
  have nd := sc_is_integer.nd
  have hu := hr.units
  have hv := u65 hr
  exact
    (ss_one (s_ret (d_and (d_isi (T := "int") (by decide +kernel) T.n_isinstance T.n_int (d_var 0)) (d_one (d_not (d_isi (T := "bool") (by decide +kernel) T.n_isinstance T.n_bool (d_var 0)))))))
set_option maxHeartbeats 4000000 in
theorem ok_is_constant (T : Txt K w mg) : FnG P w K mg base 2 T.a_is_constant T.d_is_constant ["thing"] m_is_constant := fnG_of T.f_is_constant sc_is_constant fun cdv A out s H hr hgd => by
  have nd := sc_is_constant.nd
  have hu := hr.units
  have hv := u65 hr
  exact
    (ss_cons (s_if ((w_or (t_not (t_tr (d_call (ok_is_tuple T) (hr.mono (by decide)) hgd T.g_is_tuple T.f_is_tuple.kp T.b_is_tuple (len_cons (len_cons (len_cons len_nil))) (a_cons (d_var 0) (a_cons d_int (a_cons d_int a_nil)))))) (w_or1 (t_not (t_tr (d_isi (T := "str") (by decide +kernel) T.n_isinstance T.n_str (d_ix (d_var 0) d_int))))))).pt (ss_one (s_ret d_bl)) ss_nil)
    (ss_cons (s_asg (d_var 0) (g_tup rfl (gs_cons (g_name nd) (gs_cons (g_name nd) gs_nil))))
    (ss_cons (s_if (t_cmp (o_eq hu) f_eq (d_var 1) d_str (nomark _)) (ss_one (s_ret (d_and (d_call (ok_is_integer T) (hr.mono (by decide)) hgd T.g_is_integer T.f_is_integer.kp T.b_is_integer (len_cons len_nil) (a_cons (d_var 2) a_nil)) (d_one (d_chn op_le op_le f_cmp f_cmp fCmp_bl (d_neg (d_gint T.g_LARGEST)) (d_var 2) (d_gint T.g_LARGEST)))))) ss_nil)
    (ss_one (s_ret (d_and (d_cmp (o_eq hu) f_eq (d_var 1) d_str (nomark _)) (d_and (d_isi (T := "str") (by decide +kernel) T.n_isinstance T.n_str (d_var 2)) (d_one (d_cmp op_le f_cmp (d_callB call_len c_len T.n_len (a_cons (d_var 2) a_nil)) (d_gint T.g_LONGEST_TEXT) (nomark _))))))))))
set_option maxHeartbeats 4000000 in
theorem ok_is_field (T : Txt K w mg) : FnG P w K mg base 2 T.a_is_field T.d_is_field ["thing", "aliases"] m_is_field := fnG_of T.f_is_field sc_is_field fun cdv A out s H hr hgd => by
  have nd := sc_is_field.nd
  have hu := hr.units
  have hv := u65 hr
  exact
    (ss_cons (s_if ((w_or (t_not (t_tr (d_call (ok_is_tuple T) (hr.mono (by decide)) hgd T.g_is_tuple T.f_is_tuple.kp T.b_is_tuple (len_cons (len_cons (len_cons len_nil))) (a_cons (d_var 0) (a_cons d_int (a_cons d_int a_nil)))))) (w_or1 (t_not (t_tr (d_callB (cr_all rfl) c_all T.n_all (a_cons (d_lc rfl nd (own := [(("part" : Str), 2)]) (i_seq (d_var 0)) (by exact blkOk_by (N := N_is_field) (sc := defScope st_is_field) (by decide +kernel)) (by decide) (fun _ _ _ _ _ => (g_name nd)) (fun _ _ _ _ _ => ts_nil) (fun _ _ _ _ _ => (d_call (ok_is_name T) (hr.mono (by decide)) hgd T.g_is_name T.f_is_name.kp T.b_is_name (len_cons len_nil) (a_cons (d_var 2) a_nil)))) a_nil))))))).pt (ss_one (s_ret d_bl)) ss_nil)
    (ss_one (s_ret (d_and (d_cmp (o_eq hu) f_eq (d_ix (d_var 0) d_int) d_str (nomark _)) (d_one (d_cmp (o_in hv) f_in (d_ix (d_var 0) d_int) (d_var 1) (by rfl)))))))
set_option maxHeartbeats 4000000 in
theorem ok_is_side (T : Txt K w mg) : FnG P w K mg base 3 T.a_is_side T.d_is_side ["thing", "aliases"] m_is_side := fnG_of T.f_is_side sc_is_side fun cdv A out s H hr hgd => by
  have nd := sc_is_side.nd
  have hu := hr.units
  have hv := u65 hr
  exact
    (ss_one (s_ret (d_or (d_call (ok_is_field T) (hr.mono (by decide)) hgd T.g_is_field T.f_is_field.kp T.b_is_field (len_cons (len_cons len_nil)) (a_cons (d_var 0) (a_cons (d_var 1) a_nil))) (d_one (d_call (ok_is_constant T) (hr.mono (by decide)) hgd T.g_is_constant T.f_is_constant.kp T.b_is_constant (len_cons len_nil) (a_cons (d_var 0) a_nil))))))
set_option maxHeartbeats 4000000 in
theorem ok_is_condition (T : Txt K w mg) : FnG P w K mg base 4 T.a_is_condition T.d_is_condition ["thing", "aliases"] m_is_condition := fnG_of T.f_is_condition sc_is_condition fun cdv A out s H hr hgd => by
  have nd := sc_is_condition.nd
  have hu := hr.units
  have hv := u65 hr
  exact
    (ss_one (s_ret (d_and (d_call (ok_is_tuple T) (hr.mono (by decide)) hgd T.g_is_tuple T.f_is_tuple.kp T.b_is_tuple (len_cons (len_cons (len_cons len_nil))) (a_cons (d_var 0) (a_cons d_int (a_cons d_int a_nil)))) (d_and (d_call (ok_is_field T) (hr.mono (by decide)) hgd T.g_is_field T.f_is_field.kp T.b_is_field (len_cons (len_cons len_nil)) (a_cons (d_ix (d_var 0) d_int) (a_cons (d_var 1) a_nil))) (d_one (d_call (ok_is_side T) (hr.mono (by decide)) hgd T.g_is_side T.f_is_side.kp T.b_is_side (len_cons (len_cons len_nil)) (a_cons (d_ix (d_var 0) d_int) (a_cons (d_var 1) a_nil))))))))
set_option maxHeartbeats 4000000 in
theorem ok_is_part (T : Txt K w mg) : FnG P w K mg base 5 T.a_is_part T.d_is_part ["thing"] m_is_part := fnG_of T.f_is_part sc_is_part fun cdv A out s H hr hgd => by
  have nd := sc_is_part.nd
  have hu := hr.units
  have hv := u65 hr
  exact
    (ss_cons (s_if (t_not (t_tr (d_call (ok_is_tuple T) (hr.mono (by decide)) hgd T.g_is_tuple T.f_is_tuple.kp T.b_is_tuple (len_cons (len_cons (len_cons len_nil))) (a_cons (d_var 0) (a_cons d_int (a_cons d_int a_nil)))))) (ss_one (s_ret d_bl)) ss_nil)
    (ss_cons (s_asg (d_var 0) (g_tup rfl (gs_cons (g_name nd) (gs_cons (g_name nd) (gs_cons (g_name nd) gs_nil)))))
    (ss_cons (s_if ((w_or (t_not (t_tr (d_call (ok_is_tuple T) (hr.mono (by decide)) hgd T.g_is_tuple T.f_is_tuple.kp T.b_is_tuple (len_cons (len_cons (len_cons len_nil))) (a_cons (d_var 1) (a_cons d_int (a_cons d_int a_nil)))))) (w_or1 (t_not (t_tr (d_callB (cr_all rfl) c_all T.n_all (a_cons (d_lc rfl nd (own := [(("source" : Str), 5)]) (i_seq (d_var 1)) (by exact blkOk_by (N := N_is_part) (sc := defScope st_is_part) (by decide +kernel)) (by decide) (fun _ _ _ _ _ => (g_name nd)) (fun _ _ _ _ _ => ts_nil) (fun _ _ _ _ _ => (d_call (ok_is_source T) (hr.mono (by decide)) hgd T.g_is_source T.f_is_source.kp T.b_is_source (len_cons len_nil) (a_cons (d_var 5) a_nil)))) a_nil))))))).pt (ss_one (s_ret d_bl)) ss_nil)
    (ss_cons (s_set (i := 4) nd (d_lc rfl nd (own := [(("source" : Str), 5)]) (i_seq (d_var 1)) (by exact blkOk_by (N := N_is_part) (sc := defScope st_is_part) (by decide +kernel)) (by decide) (fun _ _ _ _ _ => (g_name nd)) (fun _ _ _ _ _ => ts_nil) (fun _ _ _ _ _ => (d_ix (d_var 5) d_int))))
    (ss_cons (s_if (t_cmp op_lt f_cmp (d_lenSet rfl T.n_len T.n_set (d_var 4)) (d_callB call_len c_len T.n_len (a_cons (d_var 4) a_nil)) (nomark _)) (ss_one (s_ret d_bl)) ss_nil)
    (ss_cons (s_if ((w_or (t_not (t_tr (d_call (ok_is_tuple T) (hr.mono (by decide)) hgd T.g_is_tuple T.f_is_tuple.kp T.b_is_tuple (len_cons (len_cons (len_cons len_nil))) (a_cons (d_var 2) (a_cons d_int (a_cons d_int a_nil)))))) (w_or1 (t_not (t_tr (d_callB (cr_all rfl) c_all T.n_all (a_cons (d_lc rfl nd (own := [(("condition" : Str), 6)]) (i_seq (d_var 2)) (by exact blkOk_by (N := N_is_part) (sc := defScope st_is_part) (by decide +kernel)) (by decide) (fun _ _ _ _ _ => (g_name nd)) (fun _ _ _ _ _ => ts_nil) (fun _ _ _ _ _ => (d_call (ok_is_condition T) (hr.mono (by decide)) hgd T.g_is_condition T.f_is_condition.kp T.b_is_condition (len_cons (len_cons len_nil)) (a_cons (d_var 6) (a_cons (d_var 4) a_nil))))) a_nil))))))).pt (ss_one (s_ret d_bl)) ss_nil)
    (ss_one (s_ret (d_and (d_call (ok_is_tuple T) (hr.mono (by decide)) hgd T.g_is_tuple T.f_is_tuple.kp T.b_is_tuple (len_cons (len_cons (len_cons len_nil))) (a_cons (d_var 3) (a_cons d_int (a_cons d_int a_nil)))) (d_one (d_callB (cr_all rfl) c_all T.n_all (a_cons (d_lc rfl nd (own := [(("output" : Str), 7)]) (i_seq (d_var 3)) (by exact blkOk_by (N := N_is_part) (sc := defScope st_is_part) (by decide +kernel)) (by decide) (fun _ _ _ _ _ => (g_name nd)) (fun _ _ _ _ _ => ts_nil) (fun _ _ _ _ _ => (d_call (ok_is_side T) (hr.mono (by decide)) hgd T.g_is_side T.f_is_side.kp T.b_is_side (len_cons (len_cons len_nil)) (a_cons (d_var 7) (a_cons (d_var 4) a_nil))))) a_nil))))))))))))
set_option maxHeartbeats 4000000 in
theorem ok_is_query (T : Txt K w mg) : FnG P w K mg base 6 T.a_is_query T.d_is_query ["thing"] m_is_query := fnG_of T.f_is_query sc_is_query fun cdv A out s H hr hgd => by
  have nd := sc_is_query.nd
  have hu := hr.units
  have hv := u65 hr
  exact
    (ss_cons (s_if ((w_or (t_not (t_tr (d_call (ok_is_tuple T) (hr.mono (by decide)) hgd T.g_is_tuple T.f_is_tuple.kp T.b_is_tuple (len_cons (len_cons (len_cons len_nil))) (a_cons (d_var 0) (a_cons d_int (a_cons d_int a_nil)))))) (w_or1 (t_not (t_tr (d_callB (cr_all rfl) c_all T.n_all (a_cons (d_lc rfl nd (own := [(("part" : Str), 1)]) (i_seq (d_var 0)) (by exact blkOk_by (N := N_is_query) (sc := defScope st_is_query) (by decide +kernel)) (by decide) (fun _ _ _ _ _ => (g_name nd)) (fun _ _ _ _ _ => ts_nil) (fun _ _ _ _ _ => (d_call (ok_is_part T) (hr.mono (by decide)) hgd T.g_is_part T.f_is_part.kp T.b_is_part (len_cons len_nil) (a_cons (d_var 1) a_nil)))) a_nil))))))).pt (ss_one (s_ret d_bl)) ss_nil)
    (ss_one (s_ret (d_cmp (o_eq hu) f_eq (d_lenSc T.n_len rfl nd (own := [(("part" : Str), 1)]) (i_seq (d_var 0)) (by exact blkOk_by (N := N_is_query) (sc := defScope st_is_query) (by decide +kernel)) (by decide) (fun _ _ _ _ _ => (g_name nd)) (fun _ _ _ _ _ => (d_callB call_len c_len T.n_len (a_cons (d_ix (d_var 1) d_int) a_nil)))) d_int (nomark _)))))
set_option maxHeartbeats 4000000 in
theorem ok_sources_in (T : Txt K w mg) : FnG P w K mg base 1 T.a_sources_in T.d_sources_in ["query"] m_sources_in := fnG_of T.f_sources_in sc_sources_in fun cdv A out s H hr hgd => by
  have nd := sc_sources_in.nd
  have hu := hr.units
  have hv := u65 hr
  exact
    (ss_one (s_ret (d_twoC (own := [(("part" : Str), 1), (("source" : Str), 2)]) (vs2 := [2]) rfl (u8 hv) T.n_list nd (i_seq (d_var 0)) (by exact blkOk_by (N := N_sources_in) (sc := defScope st_sources_in) (by decide +kernel)) (by decide) (by decide) (by decide) (fun _ _ _ _ _ => (g_name nd)) (fun _ _ _ _ _ => (i_seq (d_ix (d_var 1) d_int))) (fun _ _ _ _ _ => (g_name nd)) (fun _ _ _ _ _ => (d_ix (d_var 2) d_int)) (fun _ _ _ _ _ => d_bl))))
set_option maxHeartbeats 4000000 in
theorem ok_law_bag (T : Txt K w mg) : FnG P w K mg base 1 T.a_law_bag T.d_law_bag ["_law_script"] m_law_bag := fnG_of T.f_law_bag sc_law_bag fun cdv A out s H hr hgd => by
  have nd := sc_law_bag.nd
  have hu := hr.units
  have hv := u65 hr
  exact
    (ss_one (s_ret (d_cel (a_cons d_int (a_cons d_int (a_cons d_int (a_cons (d_lc rfl nd (own := [(("_law_cell" : Str), 1)]) (i_seq (d_sl (d_var 0) o_none (o_some d_int))) (by exact blkOk_by (N := N_law_bag) (sc := defScope st_law_bag) (by decide +kernel)) (by decide) (fun _ _ _ _ _ => (g_name nd)) (fun _ _ _ _ _ => ts_nil) (fun _ _ _ _ _ => (d_callB call_abs c_abs T.n_abs (a_cons (d_var 1) a_nil)))) a_nil)))))))
set_option maxHeartbeats 4000000 in
theorem ok_law_take (T : Txt K w mg) : FnG P w K mg base 1 T.a_law_take T.d_law_take ["_law_bag_here", "_law_many"] m_law_take := fnG_of T.f_law_take sc_law_take fun cdv A out s H hr hgd => by
  have nd := sc_law_take.nd
  have hu := hr.units
  have hv := u65 hr
  exact
    (ss_cons (s_if (t_cmp (o_eq hu) f_eq (d_ix (d_var 0) d_int) d_int (nomark _)) (ss_cons (s_set (i := 2) nd d_int)
    (ss_cons (s_if (t_cmp op_lt f_cmp (d_ix (d_var 0) d_int) (d_callB call_len c_len T.n_len (a_cons (d_ix (d_var 0) d_int) a_nil)) (nomark _)) (ss_one (s_set (i := 2) nd (d_ix (d_ix (d_var 0) d_int) (d_ix (d_var 0) d_int)))) ss_nil)
    (ss_cons (s_augix (d_var 0) d_int d_int)
    (ss_cons (s_if (t_cmp op_ge f_cmp (d_var 2) d_int (nomark _)) (ss_one (s_stix (d_var 2) (d_var 0) d_int)) ss_nil)
    (ss_one (s_stix (d_op op_mod f_mod (d_op o_add f_add (d_op o_add f_add (d_op o_mul f_mul (d_ix (d_var 0) d_int) d_int) (d_op op_mod f_mod (d_var 2) d_int)) (d_op o_mul f_mul d_int (d_ix (d_var 0) d_int))) d_int) (d_var 0) d_int)))))) ss_nil)
    (ss_cons (s_if (t_cmp op_gt f_cmp (d_ix (d_var 0) d_int) d_int (nomark _)) (ss_cons (s_set (i := 3) nd (d_op op_mod f_mod (d_ix (d_var 0) d_int) (d_var 1)))
    (ss_cons (s_stix (d_op op_fdiv f_div (d_ix (d_var 0) d_int) (d_var 1)) (d_var 0) d_int)
    (ss_one (s_ret (d_var 3))))) ss_nil)
    (ss_cons (s_set (i := 4) nd (d_op op_mod f_mod (d_op o_mul f_mul (d_op o_add f_add (d_ix (d_var 0) d_int) d_int) d_int) d_int))
    (ss_cons (s_set (i := 5) nd (d_op op_mod f_mod (d_op o_mul f_mul (d_op op_mod f_mod (d_op o_mul f_mul (d_var 4) (d_var 4)) d_int) d_int) d_int))
    (ss_cons (s_if (t_cmp op_gt f_cmp (d_var 1) d_int (nomark _)) (ss_one (s_ret (d_op op_mod f_mod (d_op o_add f_add (d_op o_mul f_mul (d_var 5) d_int) (d_var 4)) (d_var 1)))) ss_nil)
    (ss_one (s_ret (d_op op_mod f_mod (d_op op_fdiv f_div (d_var 5) d_int) (d_var 1)))))))))
set_option maxHeartbeats 4000000 in
theorem ok_law_alike (T : Txt K w mg) : FnG P w K mg base 1 T.a_law_alike T.d_law_alike ["_law_found", "_law_due"] m_law_alike := fnG_of T.f_law_alike sc_law_alike fun cdv A out s H hr hgd => by
  have nd := sc_law_alike.nd
  have hu := hr.units
  have hv := u65 hr
  exact
    (ss_one (s_ret (d_and (d_cmp (o_eq hu) f_eq (d_var 0) (d_var 1) (nomark _)) (d_one (d_cmp (o_eq hu) f_eq (d_callB (call_reprQ hgd hu) c_repr T.n_repr (a_cons (d_var 0) a_nil)) (d_callB (call_reprQ hgd hu) c_repr T.n_repr (a_cons (d_var 1) a_nil)) (nomark _))))))
set_option maxHeartbeats 4000000 in
theorem ok_law_names (T : Txt K w mg) : FnG P w K mg base 2 T.a_law_names T.d_law_names ["_law_bag_here", "_law_many"] m_law_names := fnG_of T.f_law_names sc_law_names fun cdv A out s H hr hgd => by
  have nd := sc_law_names.nd
  have hu := hr.units
  have hv := u65 hr
  exact
    (ss_cons (s_set (i := 2) nd d_str)
    (ss_cons (s_set (i := 3) nd d_str)
    (ss_cons (s_set (i := 3) nd (d_split (d_op o_add f_add (d_var 3) d_str) d_str))
    (ss_cons (s_asg (d_tup (a_cons (d_call (ok_law_take T) (hr.mono (by decide)) hgd T.g_law_take T.f_law_take.kp T.b_law_take (len_cons (len_cons len_nil)) (a_cons (d_var 0) (a_cons d_int a_nil))) (a_cons (d_call (ok_law_take T) (hr.mono (by decide)) hgd T.g_law_take T.f_law_take.kp T.b_law_take (len_cons (len_cons len_nil)) (a_cons (d_var 0) (a_cons d_int a_nil))) a_nil))) (g_tup rfl (gs_cons (g_name nd) (gs_cons (g_name nd) gs_nil))))
    (ss_cons (s_set (i := 6) nd (d_join d_str (d_lc rfl nd (own := [(("_law_k" : Str), 8)]) (i_rg1 T.n_range (d_op o_add f_add d_int (d_call (ok_law_take T) (hr.mono (by decide)) hgd T.g_law_take T.f_law_take.kp T.b_law_take (len_cons (len_cons len_nil)) (a_cons (d_var 0) (a_cons d_int a_nil))))) (by exact blkOk_by (N := N_law_names) (sc := defScope st_law_names) (by decide +kernel)) (by decide) (fun _ _ _ _ _ => (g_name nd)) (fun _ _ _ _ _ => ts_nil) (fun _ _ _ _ _ => (d_ix (d_var 2) (d_call (ok_law_take T) (hr.mono (by decide)) hgd T.g_law_take T.f_law_take.kp T.b_law_take (len_cons (len_cons len_nil)) (a_cons (d_var 0) (a_cons d_int a_nil))))))))
    (ss_cons (s_set (i := 7) nd (d_call (ok_law_take T) (hr.mono (by decide)) hgd T.g_law_take T.f_law_take.kp T.b_law_take (len_cons (len_cons len_nil)) (a_cons (d_var 0) (a_cons (d_op o_add f_add (d_callB call_len c_len T.n_len (a_cons (d_var 6) a_nil)) d_int) a_nil))))
    (ss_cons (s_if (t_cmp (o_eq hu) f_eq (d_var 4) d_int (nomark _)) (ss_one (s_ret (d_sl (d_op o_add f_add (d_sl (d_var 3) (o_some (d_var 5)) o_none) (d_sl (d_var 3) o_none (o_some (d_var 5)))) o_none (o_some (d_var 1))))) ss_nil)
    (ss_cons (s_if (t_cmp (o_eq hu) f_eq (d_var 4) d_int (nomark _)) (ss_one (s_ret (d_lc rfl nd (own := [(("_law_k" : Str), 8)]) (i_rg1 T.n_range (d_var 1)) (by exact blkOk_by (N := N_law_names) (sc := defScope st_law_names) (by decide +kernel)) (by decide) (fun _ _ _ _ _ => (g_name nd)) (fun _ _ _ _ _ => ts_nil) (fun _ _ _ _ _ => (d_ix (d_var 2) (d_op op_mod f_mod (d_op o_add f_add (d_var 5) (d_op o_mul f_mul d_int (d_var 8))) d_int)))))) ss_nil)
    (ss_one (s_ret (d_lc rfl nd (own := [(("_law_k" : Str), 8)]) (i_rg1 T.n_range (d_var 1)) (by exact blkOk_by (N := N_law_names) (sc := defScope st_law_names) (by decide +kernel)) (by decide) (fun _ _ _ _ _ => (g_name nd)) (fun _ _ _ _ _ => ts_nil) (fun _ _ _ _ _ => (d_op o_add f_add (d_op o_add f_add (d_sl (d_var 6) o_none (o_some (d_var 7))) (d_ix (d_var 2) (d_op op_mod f_mod (d_op o_add f_add (d_var 5) (d_op o_mul f_mul d_int (d_var 8))) d_int))) (d_sl (d_var 6) (o_some (d_var 7)) o_none))))))))))))))
set_option maxHeartbeats 4000000 in
theorem ok_law_bent (T : Txt K w mg) : ∀ n : Nat, FnG P w K mg base (1 + n) T.a_law_bent T.d_law_bent ["_law_bag_here", "_law_thing"] (m_law_bent n)
  | 0 => ⟨fun A out s H args us vs Q hr hg e0 hb rv ⟨F, μ, G, S, ds, d, S', r, ra, hl, e, kk⟩ => by cases e⟩
  | n + 1 => fnG_of T.f_law_bent sc_law_bent fun cdv A out s H hr hgd => by
    have ih := ok_law_bent T n
    have nd := sc_law_bent.nd
    have hu := hr.units
    have hv := u65 hr
    exact
    (ss_cons (s_set (i := 2) nd (d_lst (a_cons d_non (a_cons d_bl (a_cons d_bl (a_cons d_int (a_cons d_int (a_cons (d_neg d_int) (a_cons d_str (a_cons d_str (a_cons d_str (a_cons d_str (a_cons d_str (a_cons d_str (a_cons (d_lst a_nil) (a_cons d_dic0 (a_cons (d_tup a_nil) (a_cons (d_tup (a_cons d_str a_nil)) a_nil))))))))))))))))))
    (ss_cons (s_set (i := 2) nd (d_op o_add f_add (d_var 2) (d_lst (a_cons (d_tup (a_cons d_str (a_cons d_str (a_cons d_str a_nil)))) (a_cons (d_op o_add f_add (d_op op_pow f_pow d_int d_int) d_int) (a_cons (d_tup (a_cons d_str (a_cons d_bl a_nil))) (a_cons (d_tup (a_cons d_str (a_cons (d_op o_mul f_mul d_str d_int) a_nil))) (a_cons (d_tup (a_cons d_str (a_cons d_int a_nil))) (a_cons (d_tup (a_cons d_str a_nil)) a_nil)))))))))
    (ss_cons (s_set (i := 2) nd (d_op o_add f_add (d_var 2) (d_lst (a_cons (d_tup (a_cons d_str (a_cons d_str a_nil))) (a_cons (d_tup (a_cons d_str (a_cons d_str a_nil))) a_nil)))))
    (ss_cons (s_set (i := 3) nd (d_ix (d_var 2) (d_call (ok_law_take T) (hr.mono (rle n (k := 1) (by decide))) hgd T.g_law_take T.f_law_take.kp T.b_law_take (len_cons (len_cons len_nil)) (a_cons (d_var 0) (a_cons d_int a_nil)))))
    (ss_cons (s_if ((w_or (t_not (t_tr (d_isi (T := "tuple") (by decide +kernel) T.n_isinstance T.n_tuple (d_var 1)))) (w_or1 (t_cmp (o_eq hu) f_eq (d_var 1) (d_tup a_nil) (nomark _))))).pt (ss_one (s_ret (d_ix (d_lst (a_cons (d_var 3) (a_cons (d_lst (a_cons (d_var 1) a_nil)) (a_cons (d_tup (a_cons (d_var 1) a_nil)) a_nil)))) (d_call (ok_law_take T) (hr.mono (rle n (k := 1) (by decide))) hgd T.g_law_take T.f_law_take.kp T.b_law_take (len_cons (len_cons len_nil)) (a_cons (d_var 0) (a_cons d_int a_nil)))))) ss_nil)
    (ss_cons (s_par (i := 4) (j := 5) rfl nd (d_call (ok_law_take T) (hr.mono (rle n (k := 1) (by decide))) hgd T.g_law_take T.f_law_take.kp T.b_law_take (len_cons (len_cons len_nil)) (a_cons (d_var 0) (a_cons d_int a_nil))) (d_call (ok_law_take T) (hr.mono (rle n (k := 1) (by decide))) hgd T.g_law_take T.f_law_take.kp T.b_law_take (len_cons (len_cons len_nil)) (a_cons (d_var 0) (a_cons (d_callB call_len c_len T.n_len (a_cons (d_var 1) a_nil)) a_nil))))
    (ss_cons (s_if (t_cmp (o_eq hu) f_eq (d_var 4) d_int (nomark _)) (ss_one (s_ret (d_op o_add f_add (d_sl (d_var 1) o_none (o_some (d_var 5))) (d_sl (d_var 1) (o_some (d_op o_add f_add (d_var 5) d_int)) o_none)))) ss_nil)
    (ss_cons (s_if (t_cmp (o_eq hu) f_eq (d_var 4) d_int (nomark _)) (ss_one (s_ret (d_op o_add f_add (d_sl (d_var 1) o_none (o_some (d_op o_add f_add (d_var 5) d_int))) (d_sl (d_var 1) (o_some (d_var 5)) o_none)))) ss_nil)
    (ss_cons (s_if (t_cmp (o_eq hu) f_eq (d_var 4) d_int (nomark _)) (ss_one (s_ret (d_callTy (call_lis hr.hd) c_lis T.n_list (a_cons (d_var 1) a_nil)))) ss_nil)
    (ss_cons (s_if (t_cmp (o_eq hu) f_eq (d_var 4) d_int (nomark _)) (ss_one (s_ret (d_rev (d_var 1)))) ss_nil)
    (ss_cons (s_set (i := 6) nd (d_if (t_cmp (o_eq hu) f_eq (d_var 4) d_int (nomark _)) (d_var 3) (d_call ih (hr.mono (Nat.le_refl _)) hgd T.g_law_bent T.f_law_bent.kp T.b_law_bent (len_cons (len_cons len_nil)) (a_cons (d_var 0) (a_cons (d_ix (d_var 1) (d_var 5)) a_nil)))))
    (ss_one (s_ret (d_op o_add f_add (d_op o_add f_add (d_sl (d_var 1) o_none (o_some (d_var 5))) (d_tup (a_cons (d_var 6) a_nil))) (d_sl (d_var 1) (o_some (d_op o_add f_add (d_var 5) d_int)) o_none)))))))))))))))
set_option maxHeartbeats 4000000 in
theorem ok_law_is_name (T : Txt K w mg) : FnG P w K mg base 1 T.a_law_is_name T.d_law_is_name ["_law_thing"] m_law_is_name := fnG_of T.f_law_is_name sc_law_is_name fun cdv A out s H hr hgd => by
  have nd := sc_law_is_name.nd
  have hu := hr.units
  have hv := u65 hr
  exact
    (ss_cons (s_set (i := 1) nd d_str)
    (ss_one (s_ret (d_and (d_isi (T := "str") (by decide +kernel) T.n_isinstance T.n_str (d_var 0)) (d_and (d_chn op_le op_le f_cmp f_cmp fCmp_bl d_int (d_callB call_len c_len T.n_len (a_cons (d_var 0) a_nil)) d_int) (d_one (d_callB (cr_all rfl) c_all T.n_all (a_cons (d_lc rfl nd (own := [(("_law_sign" : Str), 2)]) (i_seq (d_var 0)) (by exact blkOk_by (N := N_law_is_name) (sc := defScope st_law_is_name) (by decide +kernel)) (by decide) (fun _ _ _ _ _ => (g_name nd)) (fun _ _ _ _ _ => ts_nil) (fun _ _ _ _ _ => (d_cmp (o_in hv) f_in (d_var 2) (d_var 1) (by rfl)))) a_nil))))))))
set_option maxHeartbeats 4000000 in
theorem ok_law_is_ref (T : Txt K w mg) : FnG P w K mg base 2 T.a_law_is_ref T.d_law_is_ref ["_law_thing"] m_law_is_ref := fnG_of T.f_law_is_ref sc_law_is_ref fun cdv A out s H hr hgd => by
  have nd := sc_law_is_ref.nd
  have hu := hr.units
  have hv := u65 hr
  exact
    (ss_cons (s_if (t_tr (d_isi (T := "tuple") (by decide +kernel) T.n_isinstance T.n_tuple (d_var 0))) (ss_one (s_ret (d_and (d_cmp (o_eq hu) f_eq (d_callB call_len c_len T.n_len (a_cons (d_var 0) a_nil)) d_int (nomark _)) (d_and (d_call (ok_law_is_name T) (hr.mono (by decide)) hgd T.g_law_is_name T.f_law_is_name.kp T.b_law_is_name (len_cons len_nil) (a_cons (d_ix (d_var 0) d_int) a_nil)) (d_one (d_call (ok_law_is_name T) (hr.mono (by decide)) hgd T.g_law_is_name T.f_law_is_name.kp T.b_law_is_name (len_cons len_nil) (a_cons (d_ix (d_var 0) d_int) a_nil))))))) ss_nil)
    (ss_one (s_ret (d_call (ok_law_is_name T) (hr.mono (by decide)) hgd T.g_law_is_name T.f_law_is_name.kp T.b_law_is_name (len_cons len_nil) (a_cons (d_var 0) a_nil)))))
set_option maxHeartbeats 4000000 in
theorem ok_law_whole (T : Txt K w mg) : FnG P w K mg base 1 T.a_law_whole T.d_law_whole ["_law_thing", "_law_low", "_law_high"] m_law_whole := fnG_of T.f_law_whole sc_law_whole fun cdv A out s H hr hgd => by
  have nd := sc_law_whole.nd
  have hu := hr.units
  have hv := u65 hr
  exact
    (ss_one (s_ret (d_and (d_isi (T := "int") (by decide +kernel) T.n_isinstance T.n_int (d_var 0)) (d_and (d_not (d_isi (T := "bool") (by decide +kernel) T.n_isinstance T.n_bool (d_var 0))) (d_one (d_chn op_le op_le f_cmp f_cmp fCmp_bl (d_var 1) (d_var 0) (d_var 2)))))))
set_option maxHeartbeats 4000000 in
theorem ok_law_is_side (T : Txt K w mg) : FnG P w K mg base 2 T.a_law_is_side T.d_law_is_side ["_law_thing", "_law_aliases"] m_law_is_side := fnG_of T.f_law_is_side sc_law_is_side fun cdv A out s H hr hgd => by
  have nd := sc_law_is_side.nd
  have hu := hr.units
  have hv := u65 hr
  exact
    (ss_cons (s_if ((w_or (t_not (t_tr (d_isi (T := "tuple") (by decide +kernel) T.n_isinstance T.n_tuple (d_var 0)))) (w_or1 (t_cmp (o_eq hu) f_eq (d_var 0) (d_tup a_nil) (nomark _))))).pt (ss_one (s_ret d_bl)) ss_nil)
    (ss_cons (s_if ((w_and (t_cmp (o_eq hu) f_eq (d_callB call_len c_len T.n_len (a_cons (d_var 0) a_nil)) d_int (nomark _)) (w_and1 (t_cmp (o_eq hu) f_eq (d_ix (d_var 0) d_int) d_str (nomark _))))).pt (ss_one (s_ret (d_and (d_call (ok_law_is_name T) (hr.mono (by decide)) hgd T.g_law_is_name T.f_law_is_name.kp T.b_law_is_name (len_cons len_nil) (a_cons (d_ix (d_var 0) d_int) a_nil)) (d_and (d_cmp (o_in hv) f_inC (d_ix (d_var 0) d_int) (d_var 1) (by rfl)) (d_one (d_call (ok_law_is_name T) (hr.mono (by decide)) hgd T.g_law_is_name T.f_law_is_name.kp T.b_law_is_name (len_cons len_nil) (a_cons (d_ix (d_var 0) d_int) a_nil))))))) ss_nil)
    (ss_cons (s_if (t_cmp (o_ne hu) f_ne (d_callB call_len c_len T.n_len (a_cons (d_var 0) a_nil)) d_int (nomark _)) (ss_one (s_ret d_bl)) ss_nil)
    (ss_cons (s_if (t_cmp (o_eq hu) f_eq (d_ix (d_var 0) d_int) d_str (nomark _)) (ss_one (s_ret (d_call (ok_law_whole T) (hr.mono (by decide)) hgd T.g_law_whole T.f_law_whole.kp T.b_law_whole (len_cons (len_cons (len_cons len_nil))) (a_cons (d_ix (d_var 0) d_int) (a_cons (d_neg (d_op op_pow f_pow d_int d_int)) (a_cons (d_op op_pow f_pow d_int d_int) a_nil)))))) ss_nil)
    (ss_one (s_ret (d_and (d_cmp (o_eq hu) f_eq (d_ix (d_var 0) d_int) d_str (nomark _)) (d_and (d_isi (T := "str") (by decide +kernel) T.n_isinstance T.n_str (d_ix (d_var 0) d_int)) (d_one (d_cmp op_le f_cmp (d_callB call_len c_len T.n_len (a_cons (d_ix (d_var 0) d_int) a_nil)) d_int (nomark _)))))))))))
set_option maxHeartbeats 4000000 in
theorem ok_law_is_part (T : Txt K w mg) : FnG P w K mg base 3 T.a_law_is_part T.d_law_is_part ["_law_thing"] m_law_is_part := fnG_of T.f_law_is_part sc_law_is_part fun cdv A out s H hr hgd => by
  have nd := sc_law_is_part.nd
  have hu := hr.units
  have hv := u65 hr
  exact
    (ss_cons (s_if ((w_or (t_not (t_tr (d_isi (T := "tuple") (by decide +kernel) T.n_isinstance T.n_tuple (d_var 0)))) (w_or (t_cmp (o_ne hu) f_ne (d_callB call_len c_len T.n_len (a_cons (d_var 0) a_nil)) d_int (nomark _)) (w_or1 (t_not (t_tr (d_callB (cr_all rfl) c_all T.n_all (a_cons (d_lc rfl nd (own := [(("_law_row" : Str), 7)]) (i_seq (d_var 0)) (by exact blkOk_by (N := N_law_is_part) (sc := defScope st_law_is_part) (by decide +kernel)) (by decide) (fun _ _ _ _ _ => (g_name nd)) (fun _ _ _ _ _ => ts_nil) (fun _ _ _ _ _ => (d_isi (T := "tuple") (by decide +kernel) T.n_isinstance T.n_tuple (d_var 7)))) a_nil)))))))).pt (ss_one (s_ret d_bl)) ss_nil)
    (ss_cons (s_asg (d_var 0) (g_tup rfl (gs_cons (g_name nd) (gs_cons (g_name nd) (gs_cons (g_name nd) gs_nil)))))
    (ss_cons (s_set (i := 4) nd (d_cel a_nil))
    (ss_cons (s_for PassesOwn.never rfl (i_seq (d_var 1)) (g_name nd) (ss_cons (s_if ((w_or (t_not (t_tr (d_isi (T := "tuple") (by decide +kernel) T.n_isinstance T.n_tuple (d_var 5)))) (w_or (t_cmp (o_ne hu) f_ne (d_callB call_len c_len T.n_len (a_cons (d_var 5) a_nil)) d_int (nomark _)) (w_or1 (t_not (t_tr (d_call (ok_law_is_name T) (hr.mono (by decide)) hgd T.g_law_is_name T.f_law_is_name.kp T.b_law_is_name (len_cons len_nil) (a_cons (d_ix (d_var 5) d_int) a_nil)))))))).pt (ss_one (s_ret d_bl)) ss_nil)
    (ss_cons (s_if ((w_or (t_cmp (o_in hv) f_inC (d_ix (d_var 5) d_int) (d_var 4) (by rfl)) (w_or1 (t_not (t_tr (d_call (ok_law_is_ref T) (hr.mono (by decide)) hgd T.g_law_is_ref T.f_law_is_ref.kp T.b_law_is_ref (len_cons len_nil) (a_cons (d_ix (d_var 5) d_int) a_nil))))))).pt (ss_one (s_ret d_bl)) ss_nil)
    (ss_one (s_expr (d_append (d_var 4) (d_ix (d_var 5) d_int)))))))
    (ss_cons (s_if ((w_or (t_not (t_chn op_le op_le f_cmp f_cmp fCmp_bl d_int (d_callB call_len c_len T.n_len (a_cons (d_var 1) a_nil)) d_int)) (w_or (t_cmp op_gt f_cmp (d_callB call_len c_len T.n_len (a_cons (d_var 2) a_nil)) d_int (nomark _)) (w_or1 (t_not (t_chn op_le op_le f_cmp f_cmp fCmp_bl d_int (d_callB call_len c_len T.n_len (a_cons (d_var 3) a_nil)) d_int)))))).pt (ss_one (s_ret d_bl)) ss_nil)
    (ss_cons (s_for PassesOwn.never rfl (i_seq (d_var 2)) (g_name nd) (ss_cons (s_if ((w_or (t_not (t_tr (d_isi (T := "tuple") (by decide +kernel) T.n_isinstance T.n_tuple (d_var 6)))) (w_or (t_cmp (o_ne hu) f_ne (d_callB call_len c_len T.n_len (a_cons (d_var 6) a_nil)) d_int (nomark _)) (w_or1 (t_not (t_tr (d_callB (cr_all rfl) c_all T.n_all (a_cons (d_lc rfl nd (own := [(("_law_side" : Str), 8)]) (i_seq (d_var 6)) (by exact blkOk_by (N := N_law_is_part) (sc := defScope st_law_is_part) (by decide +kernel)) (by decide) (fun _ _ _ _ _ => (g_name nd)) (fun _ _ _ _ _ => ts_nil) (fun _ _ _ _ _ => (d_call (ok_law_is_side T) (hr.mono (by decide)) hgd T.g_law_is_side T.f_law_is_side.kp T.b_law_is_side (len_cons (len_cons len_nil)) (a_cons (d_var 8) (a_cons (d_var 4) a_nil))))) a_nil)))))))).pt (ss_one (s_ret d_bl)) ss_nil)
    (ss_one (s_if (t_cmp (o_ne hu) f_ne (d_ix (d_ix (d_var 6) d_int) d_int) d_str (nomark _)) (ss_one (s_ret d_bl)) ss_nil))))
    (ss_one (s_ret (d_callB (cr_all rfl) c_all T.n_all (a_cons (d_lc rfl nd (own := [(("_law_side" : Str), 8)]) (i_seq (d_var 3)) (by exact blkOk_by (N := N_law_is_part) (sc := defScope st_law_is_part) (by decide +kernel)) (by decide) (fun _ _ _ _ _ => (g_name nd)) (fun _ _ _ _ _ => ts_nil) (fun _ _ _ _ _ => (d_call (ok_law_is_side T) (hr.mono (by decide)) hgd T.g_law_is_side T.f_law_is_side.kp T.b_law_is_side (len_cons (len_cons len_nil)) (a_cons (d_var 8) (a_cons (d_var 4) a_nil))))) a_nil))))))))))
set_option maxHeartbeats 4000000 in
theorem ok_law_is_query (T : Txt K w mg) : FnG P w K mg base 4 T.a_law_is_query T.d_law_is_query ["_law_thing"] m_law_is_query := fnG_of T.f_law_is_query sc_law_is_query fun cdv A out s H hr hgd => by
  have nd := sc_law_is_query.nd
  have hu := hr.units
  have hv := u65 hr
  exact
    (ss_cons (s_if ((w_or (t_not (t_tr (d_isi (T := "tuple") (by decide +kernel) T.n_isinstance T.n_tuple (d_var 0)))) (w_or (t_not (t_chn op_le op_le f_cmp f_cmp fCmp_bl d_int (d_callB call_len c_len T.n_len (a_cons (d_var 0) a_nil)) d_int)) (w_or1 (t_not (t_tr (d_callB (cr_all rfl) c_all T.n_all (a_cons (d_lc rfl nd (own := [(("_law_part" : Str), 1)]) (i_seq (d_var 0)) (by exact blkOk_by (N := N_law_is_query) (sc := defScope st_law_is_query) (by decide +kernel)) (by decide) (fun _ _ _ _ _ => (g_name nd)) (fun _ _ _ _ _ => ts_nil) (fun _ _ _ _ _ => (d_call (ok_law_is_part T) (hr.mono (by decide)) hgd T.g_law_is_part T.f_law_is_part.kp T.b_law_is_part (len_cons len_nil) (a_cons (d_var 1) a_nil)))) a_nil)))))))).pt (ss_one (s_ret d_bl)) ss_nil)
    (ss_one (s_ret (d_cmp (op_eqLE (Nat.lt_of_le_of_lt (Nat.le_add_right _ 65) hv)) f_le (d_lc rfl nd (own := [(("_law_part" : Str), 1)]) (i_seq (d_var 0)) (by exact blkOk_by (N := N_law_is_query) (sc := defScope st_law_is_query) (by decide +kernel)) (by decide) (fun _ _ _ _ _ => (g_name nd)) (fun _ _ _ _ _ => (ts_one (t_cmp (o_ne hu) f_ne (d_callB call_len c_len T.n_len (a_cons (d_ix (d_var 1) d_int) a_nil)) (d_callB call_len c_len T.n_len (a_cons (d_ix (d_ix (d_var 0) d_int) d_int) a_nil)) (nomark _)))) (fun _ _ _ _ _ => (d_var 1))) (d_lst a_nil) (nomark _)))))
set_option maxHeartbeats 4000000 in
theorem ok_law_ref (T : Txt K w mg) : FnG P w K mg base 2 T.a_law_ref T.d_law_ref ["_law_bag_here", "_law_names_here"] m_law_ref := fnG_of T.f_law_ref sc_law_ref fun cdv A out s H hr hgd => by
  have nd := sc_law_ref.nd
  have hu := hr.units
  have hv := u65 hr
  exact
    (ss_cons (s_asg (d_lc rfl nd (own := [(("_law_k" : Str), 4)]) (i_rg1 T.n_range d_int) (by exact blkOk_by (N := N_law_ref) (sc := defScope st_law_ref) (by decide +kernel)) (by decide) (fun _ _ _ _ _ => (g_name nd)) (fun _ _ _ _ _ => ts_nil) (fun _ _ _ _ _ => (d_ix (d_var 1) (d_call (ok_law_take T) (hr.mono (by decide)) hgd T.g_law_take T.f_law_take.kp T.b_law_take (len_cons (len_cons len_nil)) (a_cons (d_var 0) (a_cons (d_callB call_len c_len T.n_len (a_cons (d_var 1) a_nil)) a_nil)))))) (g_unl rfl (gs_cons (g_name nd) (gs_cons (g_name nd) gs_nil))))
    (ss_one (s_ret (d_ix (d_lst (a_cons (d_var 2) (a_cons (d_tup (a_cons (d_var 2) (a_cons (d_var 3) a_nil))) a_nil))) (d_call (ok_law_take T) (hr.mono (by decide)) hgd T.g_law_take T.f_law_take.kp T.b_law_take (len_cons (len_cons len_nil)) (a_cons (d_var 0) (a_cons d_int a_nil)))))))
set_option maxHeartbeats 4000000 in
theorem ok_law_some_side (T : Txt K w mg) : FnG P w K mg base 2 T.a_law_some_side T.d_law_some_side ["_law_bag_here", "_law_names_here", "_law_aliases"] m_law_some_side := fnG_of T.f_law_some_side sc_law_some_side fun cdv A out s H hr hgd => by
  have nd := sc_law_some_side.nd
  have hu := hr.units
  have hv := u65 hr
  exact
    (ss_cons (s_set (i := 3) nd (d_tup (a_cons d_str (a_cons (d_ix (d_var 2) (d_call (ok_law_take T) (hr.mono (by decide)) hgd T.g_law_take T.f_law_take.kp T.b_law_take (len_cons (len_cons len_nil)) (a_cons (d_var 0) (a_cons (d_callB call_len c_len T.n_len (a_cons (d_var 2) a_nil)) a_nil)))) (a_cons (d_ix (d_var 1) (d_call (ok_law_take T) (hr.mono (by decide)) hgd T.g_law_take T.f_law_take.kp T.b_law_take (len_cons (len_cons len_nil)) (a_cons (d_var 0) (a_cons (d_callB call_len c_len T.n_len (a_cons (d_var 1) a_nil)) a_nil)))) a_nil)))))
    (ss_cons (s_set (i := 4) nd (d_lst (a_cons (d_tup (a_cons d_str (a_cons (d_call (ok_law_take T) (hr.mono (by decide)) hgd T.g_law_take T.f_law_take.kp T.b_law_take (len_cons (len_cons len_nil)) (a_cons (d_var 0) (a_cons d_int a_nil))) a_nil))) (a_cons (d_tup (a_cons d_str (a_cons d_str a_nil))) (a_cons (d_tup (a_cons d_str (a_cons (d_neg (d_op op_pow f_pow d_int d_int)) a_nil))) (a_cons (d_tup (a_cons d_str (a_cons (d_op o_mul f_mul d_str d_int) a_nil))) a_nil))))))
    (ss_cons (s_if (t_cmp (o_eq hu) f_eq (d_call (ok_law_take T) (hr.mono (by decide)) hgd T.g_law_take T.f_law_take.kp T.b_law_take (len_cons (len_cons len_nil)) (a_cons (d_var 0) (a_cons d_int a_nil))) d_int (nomark _)) (ss_one (s_set (i := 4) nd (d_lst (a_cons (d_tup (a_cons d_str (a_cons (d_op op_pow f_pow d_int d_int) a_nil))) (a_cons (d_tup (a_cons d_str (a_cons (d_op o_add f_add (d_op op_pow f_pow d_int d_int) d_int) a_nil))) (a_cons (d_tup (a_cons d_str (a_cons (d_op op_sub f_sub (d_neg (d_op op_pow f_pow d_int d_int)) d_int) a_nil))) (a_cons (d_tup (a_cons d_str (a_cons (d_op o_mul f_mul d_str d_int) a_nil))) a_nil))))))) ss_nil)
    (ss_one (s_ret (d_ix (d_lst (a_cons (d_var 3) (a_cons (d_var 3) (a_cons (d_ix (d_var 4) (d_call (ok_law_take T) (hr.mono (by decide)) hgd T.g_law_take T.f_law_take.kp T.b_law_take (len_cons (len_cons len_nil)) (a_cons (d_var 0) (a_cons d_int a_nil)))) a_nil)))) (d_call (ok_law_take T) (hr.mono (by decide)) hgd T.g_law_take T.f_law_take.kp T.b_law_take (len_cons (len_cons len_nil)) (a_cons (d_var 0) (a_cons d_int a_nil)))))))))
set_option maxHeartbeats 4000000 in
theorem ok_law_some_part (T : Txt K w mg) : FnG P w K mg base 3 T.a_law_some_part T.d_law_some_part ["_law_bag_here", "_law_names_here", "_law_many"] m_law_some_part := fnG_of T.f_law_some_part sc_law_some_part fun cdv A out s H hr hgd => by
  have nd := sc_law_some_part.nd
  have hu := hr.units
  have hv := u65 hr
  exact
    (ss_cons (s_set (i := 3) nd (d_call (ok_law_take T) (hr.mono (by decide)) hgd T.g_law_take T.f_law_take.kp T.b_law_take (len_cons (len_cons len_nil)) (a_cons (d_var 0) (a_cons (d_callB call_len c_len T.n_len (a_cons (d_var 1) a_nil)) a_nil))))
    (ss_cons (s_set (i := 4) nd (d_sl (d_op o_add f_add (d_sl (d_var 1) (o_some (d_var 3)) o_none) (d_sl (d_var 1) o_none (o_some (d_var 3)))) o_none (o_some (d_ix (d_lst (a_cons d_int (a_cons d_int (a_cons d_int (a_cons d_int (a_cons d_int (a_cons d_int a_nil))))))) (d_call (ok_law_take T) (hr.mono (by decide)) hgd T.g_law_take T.f_law_take.kp T.b_law_take (len_cons (len_cons len_nil)) (a_cons (d_var 0) (a_cons d_int a_nil)))))))
    (ss_cons (s_set (i := 5) nd (d_callTy call_tuple_of c_tup T.n_tuple (a_cons (d_lc rfl nd (own := [(("_law_alias" : Str), 9)]) (i_seq (d_var 4)) (by exact blkOk_by (N := N_law_some_part) (sc := defScope st_law_some_part) (by decide +kernel)) (by decide) (fun _ _ _ _ _ => (g_name nd)) (fun _ _ _ _ _ => ts_nil) (fun _ _ _ _ _ => (d_tup (a_cons (d_var 9) (a_cons (d_call (ok_law_ref T) (hr.mono (by decide)) hgd T.g_law_ref T.f_law_ref.kp T.b_law_ref (len_cons (len_cons len_nil)) (a_cons (d_var 0) (a_cons (d_var 1) a_nil))) a_nil))))) a_nil)))
    (ss_cons (s_set (i := 6) nd (d_cel a_nil))
    (ss_cons (s_for PassesOwn.never rfl (i_rg1 T.n_range (d_ix (d_lst (a_cons (d_call (ok_law_take T) (hr.mono (by decide)) hgd T.g_law_take T.f_law_take.kp T.b_law_take (len_cons (len_cons len_nil)) (a_cons (d_var 0) (a_cons d_int a_nil))) (a_cons (d_call (ok_law_take T) (hr.mono (by decide)) hgd T.g_law_take T.f_law_take.kp T.b_law_take (len_cons (len_cons len_nil)) (a_cons (d_var 0) (a_cons d_int a_nil))) a_nil))) (d_call (ok_law_take T) (hr.mono (by decide)) hgd T.g_law_take T.f_law_take.kp T.b_law_take (len_cons (len_cons len_nil)) (a_cons (d_var 0) (a_cons d_int a_nil))))) (g_name nd) (ss_cons (s_set (i := 8) nd (d_tup (a_cons d_str (a_cons (d_ix (d_var 4) (d_call (ok_law_take T) (hr.mono (by decide)) hgd T.g_law_take T.f_law_take.kp T.b_law_take (len_cons (len_cons len_nil)) (a_cons (d_var 0) (a_cons (d_callB call_len c_len T.n_len (a_cons (d_var 4) a_nil)) a_nil)))) (a_cons (d_ix (d_var 1) (d_call (ok_law_take T) (hr.mono (by decide)) hgd T.g_law_take T.f_law_take.kp T.b_law_take (len_cons (len_cons len_nil)) (a_cons (d_var 0) (a_cons (d_callB call_len c_len T.n_len (a_cons (d_var 1) a_nil)) a_nil)))) a_nil)))))
    (ss_one (s_expr (d_append (d_var 6) (d_tup (a_cons (d_var 8) (a_cons (d_call (ok_law_some_side T) (hr.mono (by decide)) hgd T.g_law_some_side T.f_law_some_side.kp T.b_law_some_side (len_cons (len_cons (len_cons len_nil))) (a_cons (d_var 0) (a_cons (d_var 1) (a_cons (d_var 4) a_nil)))) a_nil))))))))
    (ss_one (s_ret (d_tup (a_cons (d_var 5) (a_cons (d_callTy call_tuple_of c_tup T.n_tuple (a_cons (d_var 6) a_nil)) (a_cons (d_callTy call_tuple_of c_tup T.n_tuple (a_cons (d_lc rfl nd (own := [(("_law_k" : Str), 7)]) (i_rg1 T.n_range (d_var 2)) (by exact blkOk_by (N := N_law_some_part) (sc := defScope st_law_some_part) (by decide +kernel)) (by decide) (fun _ _ _ _ _ => (g_name nd)) (fun _ _ _ _ _ => ts_nil) (fun _ _ _ _ _ => (d_call (ok_law_some_side T) (hr.mono (by decide)) hgd T.g_law_some_side T.f_law_some_side.kp T.b_law_some_side (len_cons (len_cons (len_cons len_nil))) (a_cons (d_var 0) (a_cons (d_var 1) (a_cons (d_var 4) a_nil)))))) a_nil)) a_nil)))))))))))
set_option maxHeartbeats 4000000 in
theorem ok_law_sources (T : Txt K w mg) : FnG P w K mg base 1 T.a_law_sources T.d_law_sources ["_law_query"] m_law_sources := fnG_of T.f_law_sources sc_law_sources fun cdv A out s H hr hgd => by
  have nd := sc_law_sources.nd
  have hu := hr.units
  have hv := u65 hr
  exact
    (ss_cons (s_set (i := 1) nd (d_lst a_nil))
    (ss_cons (s_for PassesOwn.never rfl (i_seq (d_var 0)) (g_name nd) (ss_one (s_set (i := 1) nd (d_op o_add f_add (d_var 1) (d_lc rfl nd (own := [(("_law_alias" : Str), 3), (("_law_ref_here" : Str), 4)]) (i_seq (d_ix (d_var 2) d_int)) (by exact blkOk_by (N := N_law_sources) (sc := defScope st_law_sources) (by decide +kernel)) (by decide) (fun _ _ _ _ _ => (g_tup rfl (gs_cons (g_name nd) (gs_cons (g_name nd) gs_nil)))) (fun _ _ _ _ _ => (ts_one (t_cmp (o_nin hv) f_nin (d_var 4) (d_var 1) (by rfl)))) (fun _ _ _ _ _ => (d_var 4)))))))
    (ss_one (s_ret (d_lc rfl nd (own := [(("_law_at" : Str), 5), (("_law_ref_here" : Str), 4)]) (i_en T.n_enumerate (d_var 1)) (by exact blkOk_by (N := N_law_sources) (sc := defScope st_law_sources) (by decide +kernel)) (by decide) (fun _ _ _ _ _ => (g_tup rfl (gs_cons (g_name nd) (gs_cons (g_name nd) gs_nil)))) (fun _ _ _ _ _ => (ts_one (t_cmp (o_nin hv) f_nin (d_var 4) (d_sl (d_var 1) o_none (o_some (d_var 5))) (by rfl)))) (fun _ _ _ _ _ => (d_var 4)))))))
set_option maxHeartbeats 4000000 in
theorem ok_law (T : Txt K w mg) : FnG P w K mg base 14 T.a_law T.d_law ["_law_script"] m_law := fnG_of T.f_law sc_law fun cdv A out s H hr hgd => by
  have nd := sc_law.nd
  have hu := hr.units
  have hv := u65 hr
  exact
    (ss_cons (s_set (i := 1) nd (d_call (ok_law_bag T) (hr.mono (by decide)) hgd T.g_law_bag T.f_law_bag.kp T.b_law_bag (len_cons len_nil) (a_cons (d_var 0) a_nil)))
    (ss_cons (s_for PassesOwn.never rfl (i_rg1 T.n_range d_int) (g_name nd) (ss_cons (s_set (i := 3) nd (d_call (ok_law_names T) (hr.mono (by decide)) hgd T.g_law_names T.f_law_names.kp T.b_law_names (len_cons (len_cons len_nil)) (a_cons (d_var 1) (a_cons (d_op o_add f_add d_int (d_call (ok_law_take T) (hr.mono (by decide)) hgd T.g_law_take T.f_law_take.kp T.b_law_take (len_cons (len_cons len_nil)) (a_cons (d_var 1) (a_cons d_int a_nil)))) a_nil))))
    (ss_cons (s_set (i := 4) nd (d_ix (d_lst (a_cons (d_op o_add f_add d_int (d_call (ok_law_take T) (hr.mono (by decide)) hgd T.g_law_take T.f_law_take.kp T.b_law_take (len_cons (len_cons len_nil)) (a_cons (d_var 1) (a_cons d_int a_nil)))) (a_cons (d_op o_add f_add d_int (d_call (ok_law_take T) (hr.mono (by decide)) hgd T.g_law_take T.f_law_take.kp T.b_law_take (len_cons (len_cons len_nil)) (a_cons (d_var 1) (a_cons d_int a_nil)))) a_nil))) (d_call (ok_law_take T) (hr.mono (by decide)) hgd T.g_law_take T.f_law_take.kp T.b_law_take (len_cons (len_cons len_nil)) (a_cons (d_var 1) (a_cons d_int a_nil)))))
    (ss_cons (s_set (i := 5) nd (d_callTy call_tuple_of c_tup T.n_tuple (a_cons (d_lc rfl nd (own := [(("_law_k" : Str), 12)]) (i_rg1 T.n_range (d_op o_add f_add d_int (d_call (ok_law_take T) (hr.mono (by decide)) hgd T.g_law_take T.f_law_take.kp T.b_law_take (len_cons (len_cons len_nil)) (a_cons (d_var 1) (a_cons (d_ix (d_lst (a_cons d_int (a_cons d_int a_nil))) (d_call (ok_law_take T) (hr.mono (by decide)) hgd T.g_law_take T.f_law_take.kp T.b_law_take (len_cons (len_cons len_nil)) (a_cons (d_var 1) (a_cons d_int a_nil)))) a_nil))))) (by exact blkOk_by (N := N_law) (sc := defScope st_law) (by decide +kernel)) (by decide) (fun _ _ _ _ _ => (g_name nd)) (fun _ _ _ _ _ => ts_nil) (fun _ _ _ _ _ => (d_call (ok_law_some_part T) (hr.mono (by decide)) hgd T.g_law_some_part T.f_law_some_part.kp T.b_law_some_part (len_cons (len_cons (len_cons len_nil))) (a_cons (d_var 1) (a_cons (d_var 3) (a_cons (d_var 4) a_nil)))))) a_nil)))
    (ss_cons (s_set (i := 6) nd (d_call (ok_law_bent T 12) (hr.mono (by decide)) hgd T.g_law_bent T.f_law_bent.kp T.b_law_bent (len_cons (len_cons len_nil)) (a_cons (d_var 1) (a_cons (d_var 5) a_nil))))
    (ss_cons (s_set (i := 7) nd (d_ix (d_lst (a_cons d_non (a_cons (d_tup a_nil) (a_cons (d_lst a_nil) (a_cons d_dic0 (a_cons d_str (a_cons d_int (a_cons d_bl (a_cons (d_tup (a_cons (d_var 5) a_nil)) (a_cons (d_callTy (call_lis hr.hd) c_lis T.n_list (a_cons (d_var 5) a_nil)) a_nil)))))))))) (d_call (ok_law_take T) (hr.mono (by decide)) hgd T.g_law_take T.f_law_take.kp T.b_law_take (len_cons (len_cons len_nil)) (a_cons (d_var 1) (a_cons d_int a_nil)))))
    (ss_cons (s_if (t_cmp (o_eq hu) f_eq (d_call (ok_law_take T) (hr.mono (by decide)) hgd T.g_law_take T.f_law_take.kp T.b_law_take (len_cons (len_cons len_nil)) (a_cons (d_var 1) (a_cons d_int a_nil))) d_int (nomark _)) (ss_one (s_set (i := 7) nd (d_op o_add f_add (d_var 5) (d_tup (a_cons (d_call (ok_law_some_part T) (hr.mono (by decide)) hgd T.g_law_some_part T.f_law_some_part.kp T.b_law_some_part (len_cons (len_cons (len_cons len_nil))) (a_cons (d_var 1) (a_cons (d_var 3) (a_cons (d_op o_add f_add (d_var 4) d_int) a_nil)))) a_nil))))) ss_nil)
    (ss_cons (s_for PassesOwn.never rfl (i_seq (d_tup (a_cons (d_var 5) (a_cons (d_var 6) (a_cons (d_call (ok_law_bent T 12) (hr.mono (by decide)) hgd T.g_law_bent T.f_law_bent.kp T.b_law_bent (len_cons (len_cons len_nil)) (a_cons (d_var 1) (a_cons (d_var 6) a_nil))) (a_cons (d_var 7) (a_cons (d_var 5) a_nil))))))) (g_name nd) (ss_cons (s_set (i := 9) nd (d_callB (call_reprQ hgd hu) c_repr T.n_repr (a_cons (d_var 8) a_nil)))
    (ss_one (s_for PassesOwn.never rfl (i_rg1 T.n_range d_int) (g_name nd) (ss_one (s_if ((w_or (t_not (t_tr (d_call (ok_law_alike T) (hr.mono (by decide)) hgd T.g_law_alike T.f_law_alike.kp T.b_law_alike (len_cons (len_cons len_nil)) (a_cons (d_call (ok_is_query T) (hr.mono (by decide)) hgd T.g_is_query T.f_is_query.kp T.b_is_query (len_cons len_nil) (a_cons (d_var 8) a_nil)) (a_cons (d_call (ok_law_is_query T) (hr.mono (by decide)) hgd T.g_law_is_query T.f_law_is_query.kp T.b_law_is_query (len_cons len_nil) (a_cons (d_var 8) a_nil)) a_nil))))) (w_or1 (t_cmp (o_ne hu) f_ne (d_callB (call_reprQ hgd hu) c_repr T.n_repr (a_cons (d_var 8) a_nil)) (d_var 9) (nomark _))))).pt (ss_one (s_ret d_bl)) ss_nil))))))
    (ss_one (s_if (t_tr (d_call (ok_law_is_query T) (hr.mono (by decide)) hgd T.g_law_is_query T.f_law_is_query.kp T.b_law_is_query (len_cons len_nil) (a_cons (d_var 5) a_nil))) (ss_one (s_for PassesOwn.never rfl (i_rg1 T.n_range d_int) (g_name nd) (ss_cons (s_set (i := 11) nd (d_call (ok_sources_in T) (hr.mono (by decide)) hgd T.g_sources_in T.f_sources_in.kp T.b_sources_in (len_cons len_nil) (a_cons (d_var 5) a_nil)))
    (ss_cons (s_if (t_not (t_tr (d_call (ok_law_alike T) (hr.mono (by decide)) hgd T.g_law_alike T.f_law_alike.kp T.b_law_alike (len_cons (len_cons len_nil)) (a_cons (d_var 11) (a_cons (d_call (ok_law_sources T) (hr.mono (by decide)) hgd T.g_law_sources T.f_law_sources.kp T.b_law_sources (len_cons len_nil) (a_cons (d_var 5) a_nil)) a_nil))))) (ss_one (s_ret d_bl)) ss_nil)
    (ss_one (s_expr (d_append (d_var 11) d_str))))))) ss_nil))))))))))
    (ss_one (s_ret d_bl))))
end
theorem all_mk {w : World} {K : PySem.W.Frag} {h : Heap} {mg : Str → Option Value} {fa : Addr} (X : K.In h) (G : h.Ns mainGlobals mg) (hfa : mg "law" = some (.ref fa))
    {f0 : Addr} {od0 an0 : Option Addr} {sl0 : Array (Option Value)} {oc0 kV0 dc0 pm0 cd0 ct0 : Value} (a0 : PySem.W.nsIn K mainGlobals "is_tuple" = some (some (.ref f0))) (l0 : K.lookup f0 = some ⟨oc0, od0, .func (PySem.W.fnOf "is_tuple" "is_tuple" (defArgs st_is_tuple) (defBody st_is_tuple) (defScope st_is_tuple) .none kV0 dc0 pm0 an0 cd0 ct0), sl0⟩) (c0 : PySem.W.codeIn K cd0 "is_tuple" = true) (k0 : PySem.W.keepIn K (.ref f0) = true)
    {f1 : Addr} {od1 an1 : Option Addr} {sl1 : Array (Option Value)} {oc1 kV1 dc1 pm1 cd1 ct1 : Value} (a1 : PySem.W.nsIn K mainGlobals "is_name" = some (some (.ref f1))) (l1 : K.lookup f1 = some ⟨oc1, od1, .func (PySem.W.fnOf "is_name" "is_name" (defArgs st_is_name) (defBody st_is_name) (defScope st_is_name) .none kV1 dc1 pm1 an1 cd1 ct1), sl1⟩) (c1 : PySem.W.codeIn K cd1 "is_name" = true) (k1 : PySem.W.keepIn K (.ref f1) = true)
    {f2 : Addr} {od2 an2 : Option Addr} {sl2 : Array (Option Value)} {oc2 kV2 dc2 pm2 cd2 ct2 : Value} (a2 : PySem.W.nsIn K mainGlobals "is_ref" = some (some (.ref f2))) (l2 : K.lookup f2 = some ⟨oc2, od2, .func (PySem.W.fnOf "is_ref" "is_ref" (defArgs st_is_ref) (defBody st_is_ref) (defScope st_is_ref) .none kV2 dc2 pm2 an2 cd2 ct2), sl2⟩) (c2 : PySem.W.codeIn K cd2 "is_ref" = true) (k2 : PySem.W.keepIn K (.ref f2) = true)
    {f3 : Addr} {od3 an3 : Option Addr} {sl3 : Array (Option Value)} {oc3 kV3 dc3 pm3 cd3 ct3 : Value} (a3 : PySem.W.nsIn K mainGlobals "is_source" = some (some (.ref f3))) (l3 : K.lookup f3 = some ⟨oc3, od3, .func (PySem.W.fnOf "is_source" "is_source" (defArgs st_is_source) (defBody st_is_source) (defScope st_is_source) .none kV3 dc3 pm3 an3 cd3 ct3), sl3⟩) (c3 : PySem.W.codeIn K cd3 "is_source" = true) (k3 : PySem.W.keepIn K (.ref f3) = true)
    {f4 : Addr} {od4 an4 : Option Addr} {sl4 : Array (Option Value)} {oc4 kV4 dc4 pm4 cd4 ct4 : Value} (a4 : PySem.W.nsIn K mainGlobals "is_integer" = some (some (.ref f4))) (l4 : K.lookup f4 = some ⟨oc4, od4, .func (PySem.W.fnOf "is_integer" "is_integer" (defArgs st_is_integer) (defBody st_is_integer) (defScope st_is_integer) .none kV4 dc4 pm4 an4 cd4 ct4), sl4⟩) (c4 : PySem.W.codeIn K cd4 "is_integer" = true) (k4 : PySem.W.keepIn K (.ref f4) = true)
    {f5 : Addr} {od5 an5 : Option Addr} {sl5 : Array (Option Value)} {oc5 kV5 dc5 pm5 cd5 ct5 : Value} (a5 : PySem.W.nsIn K mainGlobals "is_constant" = some (some (.ref f5))) (l5 : K.lookup f5 = some ⟨oc5, od5, .func (PySem.W.fnOf "is_constant" "is_constant" (defArgs st_is_constant) (defBody st_is_constant) (defScope st_is_constant) .none kV5 dc5 pm5 an5 cd5 ct5), sl5⟩) (c5 : PySem.W.codeIn K cd5 "is_constant" = true) (k5 : PySem.W.keepIn K (.ref f5) = true)
    {f6 : Addr} {od6 an6 : Option Addr} {sl6 : Array (Option Value)} {oc6 kV6 dc6 pm6 cd6 ct6 : Value} (a6 : PySem.W.nsIn K mainGlobals "is_field" = some (some (.ref f6))) (l6 : K.lookup f6 = some ⟨oc6, od6, .func (PySem.W.fnOf "is_field" "is_field" (defArgs st_is_field) (defBody st_is_field) (defScope st_is_field) .none kV6 dc6 pm6 an6 cd6 ct6), sl6⟩) (c6 : PySem.W.codeIn K cd6 "is_field" = true) (k6 : PySem.W.keepIn K (.ref f6) = true)
    {f7 : Addr} {od7 an7 : Option Addr} {sl7 : Array (Option Value)} {oc7 kV7 dc7 pm7 cd7 ct7 : Value} (a7 : PySem.W.nsIn K mainGlobals "is_side" = some (some (.ref f7))) (l7 : K.lookup f7 = some ⟨oc7, od7, .func (PySem.W.fnOf "is_side" "is_side" (defArgs st_is_side) (defBody st_is_side) (defScope st_is_side) .none kV7 dc7 pm7 an7 cd7 ct7), sl7⟩) (c7 : PySem.W.codeIn K cd7 "is_side" = true) (k7 : PySem.W.keepIn K (.ref f7) = true)
    {f8 : Addr} {od8 an8 : Option Addr} {sl8 : Array (Option Value)} {oc8 kV8 dc8 pm8 cd8 ct8 : Value} (a8 : PySem.W.nsIn K mainGlobals "is_condition" = some (some (.ref f8))) (l8 : K.lookup f8 = some ⟨oc8, od8, .func (PySem.W.fnOf "is_condition" "is_condition" (defArgs st_is_condition) (defBody st_is_condition) (defScope st_is_condition) .none kV8 dc8 pm8 an8 cd8 ct8), sl8⟩) (c8 : PySem.W.codeIn K cd8 "is_condition" = true) (k8 : PySem.W.keepIn K (.ref f8) = true)
    {f9 : Addr} {od9 an9 : Option Addr} {sl9 : Array (Option Value)} {oc9 kV9 dc9 pm9 cd9 ct9 : Value} (a9 : PySem.W.nsIn K mainGlobals "is_part" = some (some (.ref f9))) (l9 : K.lookup f9 = some ⟨oc9, od9, .func (PySem.W.fnOf "is_part" "is_part" (defArgs st_is_part) (defBody st_is_part) (defScope st_is_part) .none kV9 dc9 pm9 an9 cd9 ct9), sl9⟩) (c9 : PySem.W.codeIn K cd9 "is_part" = true) (k9 : PySem.W.keepIn K (.ref f9) = true)
    {f10 : Addr} {od10 an10 : Option Addr} {sl10 : Array (Option Value)} {oc10 kV10 dc10 pm10 cd10 ct10 : Value} (a10 : PySem.W.nsIn K mainGlobals "is_query" = some (some (.ref f10))) (l10 : K.lookup f10 = some ⟨oc10, od10, .func (PySem.W.fnOf "is_query" "is_query" (defArgs st_is_query) (defBody st_is_query) (defScope st_is_query) .none kV10 dc10 pm10 an10 cd10 ct10), sl10⟩) (c10 : PySem.W.codeIn K cd10 "is_query" = true) (k10 : PySem.W.keepIn K (.ref f10) = true)
    {f11 : Addr} {od11 an11 : Option Addr} {sl11 : Array (Option Value)} {oc11 kV11 dc11 pm11 cd11 ct11 : Value} (a11 : PySem.W.nsIn K mainGlobals "sources_in" = some (some (.ref f11))) (l11 : K.lookup f11 = some ⟨oc11, od11, .func (PySem.W.fnOf "sources_in" "sources_in" (defArgs st_sources_in) (defBody st_sources_in) (defScope st_sources_in) .none kV11 dc11 pm11 an11 cd11 ct11), sl11⟩) (c11 : PySem.W.codeIn K cd11 "sources_in" = true) (k11 : PySem.W.keepIn K (.ref f11) = true)
    {f12 : Addr} {od12 an12 : Option Addr} {sl12 : Array (Option Value)} {oc12 kV12 dc12 pm12 cd12 ct12 : Value} (a12 : PySem.W.nsIn K mainGlobals "_law_bag" = some (some (.ref f12))) (l12 : K.lookup f12 = some ⟨oc12, od12, .func (PySem.W.fnOf "_law_bag" "_law_bag" (defArgs st_law_bag) (defBody st_law_bag) (defScope st_law_bag) .none kV12 dc12 pm12 an12 cd12 ct12), sl12⟩) (c12 : PySem.W.codeIn K cd12 "_law_bag" = true) (k12 : PySem.W.keepIn K (.ref f12) = true)
    {f13 : Addr} {od13 an13 : Option Addr} {sl13 : Array (Option Value)} {oc13 kV13 dc13 pm13 cd13 ct13 : Value} (a13 : PySem.W.nsIn K mainGlobals "_law_take" = some (some (.ref f13))) (l13 : K.lookup f13 = some ⟨oc13, od13, .func (PySem.W.fnOf "_law_take" "_law_take" (defArgs st_law_take) (defBody st_law_take) (defScope st_law_take) .none kV13 dc13 pm13 an13 cd13 ct13), sl13⟩) (c13 : PySem.W.codeIn K cd13 "_law_take" = true) (k13 : PySem.W.keepIn K (.ref f13) = true)
    {f14 : Addr} {od14 an14 : Option Addr} {sl14 : Array (Option Value)} {oc14 kV14 dc14 pm14 cd14 ct14 : Value} (a14 : PySem.W.nsIn K mainGlobals "_law_alike" = some (some (.ref f14))) (l14 : K.lookup f14 = some ⟨oc14, od14, .func (PySem.W.fnOf "_law_alike" "_law_alike" (defArgs st_law_alike) (defBody st_law_alike) (defScope st_law_alike) .none kV14 dc14 pm14 an14 cd14 ct14), sl14⟩) (c14 : PySem.W.codeIn K cd14 "_law_alike" = true) (k14 : PySem.W.keepIn K (.ref f14) = true)
    {f15 : Addr} {od15 an15 : Option Addr} {sl15 : Array (Option Value)} {oc15 kV15 dc15 pm15 cd15 ct15 : Value} (a15 : PySem.W.nsIn K mainGlobals "_law_names" = some (some (.ref f15))) (l15 : K.lookup f15 = some ⟨oc15, od15, .func (PySem.W.fnOf "_law_names" "_law_names" (defArgs st_law_names) (defBody st_law_names) (defScope st_law_names) .none kV15 dc15 pm15 an15 cd15 ct15), sl15⟩) (c15 : PySem.W.codeIn K cd15 "_law_names" = true) (k15 : PySem.W.keepIn K (.ref f15) = true)
    {f16 : Addr} {od16 an16 : Option Addr} {sl16 : Array (Option Value)} {oc16 kV16 dc16 pm16 cd16 ct16 : Value} (a16 : PySem.W.nsIn K mainGlobals "_law_bent" = some (some (.ref f16))) (l16 : K.lookup f16 = some ⟨oc16, od16, .func (PySem.W.fnOf "_law_bent" "_law_bent" (defArgs st_law_bent) (defBody st_law_bent) (defScope st_law_bent) .none kV16 dc16 pm16 an16 cd16 ct16), sl16⟩) (c16 : PySem.W.codeIn K cd16 "_law_bent" = true) (k16 : PySem.W.keepIn K (.ref f16) = true)
    {f17 : Addr} {od17 an17 : Option Addr} {sl17 : Array (Option Value)} {oc17 kV17 dc17 pm17 cd17 ct17 : Value} (a17 : PySem.W.nsIn K mainGlobals "_law_is_name" = some (some (.ref f17))) (l17 : K.lookup f17 = some ⟨oc17, od17, .func (PySem.W.fnOf "_law_is_name" "_law_is_name" (defArgs st_law_is_name) (defBody st_law_is_name) (defScope st_law_is_name) .none kV17 dc17 pm17 an17 cd17 ct17), sl17⟩) (c17 : PySem.W.codeIn K cd17 "_law_is_name" = true) (k17 : PySem.W.keepIn K (.ref f17) = true)
    {f18 : Addr} {od18 an18 : Option Addr} {sl18 : Array (Option Value)} {oc18 kV18 dc18 pm18 cd18 ct18 : Value} (a18 : PySem.W.nsIn K mainGlobals "_law_is_ref" = some (some (.ref f18))) (l18 : K.lookup f18 = some ⟨oc18, od18, .func (PySem.W.fnOf "_law_is_ref" "_law_is_ref" (defArgs st_law_is_ref) (defBody st_law_is_ref) (defScope st_law_is_ref) .none kV18 dc18 pm18 an18 cd18 ct18), sl18⟩) (c18 : PySem.W.codeIn K cd18 "_law_is_ref" = true) (k18 : PySem.W.keepIn K (.ref f18) = true)
    {f19 : Addr} {od19 an19 : Option Addr} {sl19 : Array (Option Value)} {oc19 kV19 dc19 pm19 cd19 ct19 : Value} (a19 : PySem.W.nsIn K mainGlobals "_law_whole" = some (some (.ref f19))) (l19 : K.lookup f19 = some ⟨oc19, od19, .func (PySem.W.fnOf "_law_whole" "_law_whole" (defArgs st_law_whole) (defBody st_law_whole) (defScope st_law_whole) .none kV19 dc19 pm19 an19 cd19 ct19), sl19⟩) (c19 : PySem.W.codeIn K cd19 "_law_whole" = true) (k19 : PySem.W.keepIn K (.ref f19) = true)
    {f20 : Addr} {od20 an20 : Option Addr} {sl20 : Array (Option Value)} {oc20 kV20 dc20 pm20 cd20 ct20 : Value} (a20 : PySem.W.nsIn K mainGlobals "_law_is_side" = some (some (.ref f20))) (l20 : K.lookup f20 = some ⟨oc20, od20, .func (PySem.W.fnOf "_law_is_side" "_law_is_side" (defArgs st_law_is_side) (defBody st_law_is_side) (defScope st_law_is_side) .none kV20 dc20 pm20 an20 cd20 ct20), sl20⟩) (c20 : PySem.W.codeIn K cd20 "_law_is_side" = true) (k20 : PySem.W.keepIn K (.ref f20) = true)
    {f21 : Addr} {od21 an21 : Option Addr} {sl21 : Array (Option Value)} {oc21 kV21 dc21 pm21 cd21 ct21 : Value} (a21 : PySem.W.nsIn K mainGlobals "_law_is_part" = some (some (.ref f21))) (l21 : K.lookup f21 = some ⟨oc21, od21, .func (PySem.W.fnOf "_law_is_part" "_law_is_part" (defArgs st_law_is_part) (defBody st_law_is_part) (defScope st_law_is_part) .none kV21 dc21 pm21 an21 cd21 ct21), sl21⟩) (c21 : PySem.W.codeIn K cd21 "_law_is_part" = true) (k21 : PySem.W.keepIn K (.ref f21) = true)
    {f22 : Addr} {od22 an22 : Option Addr} {sl22 : Array (Option Value)} {oc22 kV22 dc22 pm22 cd22 ct22 : Value} (a22 : PySem.W.nsIn K mainGlobals "_law_is_query" = some (some (.ref f22))) (l22 : K.lookup f22 = some ⟨oc22, od22, .func (PySem.W.fnOf "_law_is_query" "_law_is_query" (defArgs st_law_is_query) (defBody st_law_is_query) (defScope st_law_is_query) .none kV22 dc22 pm22 an22 cd22 ct22), sl22⟩) (c22 : PySem.W.codeIn K cd22 "_law_is_query" = true) (k22 : PySem.W.keepIn K (.ref f22) = true)
    {f23 : Addr} {od23 an23 : Option Addr} {sl23 : Array (Option Value)} {oc23 kV23 dc23 pm23 cd23 ct23 : Value} (a23 : PySem.W.nsIn K mainGlobals "_law_ref" = some (some (.ref f23))) (l23 : K.lookup f23 = some ⟨oc23, od23, .func (PySem.W.fnOf "_law_ref" "_law_ref" (defArgs st_law_ref) (defBody st_law_ref) (defScope st_law_ref) .none kV23 dc23 pm23 an23 cd23 ct23), sl23⟩) (c23 : PySem.W.codeIn K cd23 "_law_ref" = true) (k23 : PySem.W.keepIn K (.ref f23) = true)
    {f24 : Addr} {od24 an24 : Option Addr} {sl24 : Array (Option Value)} {oc24 kV24 dc24 pm24 cd24 ct24 : Value} (a24 : PySem.W.nsIn K mainGlobals "_law_some_side" = some (some (.ref f24))) (l24 : K.lookup f24 = some ⟨oc24, od24, .func (PySem.W.fnOf "_law_some_side" "_law_some_side" (defArgs st_law_some_side) (defBody st_law_some_side) (defScope st_law_some_side) .none kV24 dc24 pm24 an24 cd24 ct24), sl24⟩) (c24 : PySem.W.codeIn K cd24 "_law_some_side" = true) (k24 : PySem.W.keepIn K (.ref f24) = true)
    {f25 : Addr} {od25 an25 : Option Addr} {sl25 : Array (Option Value)} {oc25 kV25 dc25 pm25 cd25 ct25 : Value} (a25 : PySem.W.nsIn K mainGlobals "_law_some_part" = some (some (.ref f25))) (l25 : K.lookup f25 = some ⟨oc25, od25, .func (PySem.W.fnOf "_law_some_part" "_law_some_part" (defArgs st_law_some_part) (defBody st_law_some_part) (defScope st_law_some_part) .none kV25 dc25 pm25 an25 cd25 ct25), sl25⟩) (c25 : PySem.W.codeIn K cd25 "_law_some_part" = true) (k25 : PySem.W.keepIn K (.ref f25) = true)
    {f26 : Addr} {od26 an26 : Option Addr} {sl26 : Array (Option Value)} {oc26 kV26 dc26 pm26 cd26 ct26 : Value} (a26 : PySem.W.nsIn K mainGlobals "_law_sources" = some (some (.ref f26))) (l26 : K.lookup f26 = some ⟨oc26, od26, .func (PySem.W.fnOf "_law_sources" "_law_sources" (defArgs st_law_sources) (defBody st_law_sources) (defScope st_law_sources) .none kV26 dc26 pm26 an26 cd26 ct26), sl26⟩) (c26 : PySem.W.codeIn K cd26 "_law_sources" = true) (k26 : PySem.W.keepIn K (.ref f26) = true)
    {f27 : Addr} {od27 an27 : Option Addr} {sl27 : Array (Option Value)} {oc27 kV27 dc27 pm27 cd27 ct27 : Value} (a27 : PySem.W.nsIn K mainGlobals "law" = some (some (.ref f27))) (l27 : K.lookup f27 = some ⟨oc27, od27, .func (PySem.W.fnOf "law" "law" (defArgs st_law) (defBody st_law) (defScope st_law) .none kV27 dc27 pm27 an27 cd27 ct27), sl27⟩) (c27 : PySem.W.codeIn K cd27 "law" = true) (k27 : PySem.W.keepIn K (.ref f27) = true)
    (z_abs : PySem.W.nsIn K mainGlobals "abs" = some none)
    (z_all : PySem.W.nsIn K mainGlobals "all" = some none)
    (z_bool : PySem.W.nsIn K mainGlobals "bool" = some none)
    (z_enumerate : PySem.W.nsIn K mainGlobals "enumerate" = some none)
    (z_int : PySem.W.nsIn K mainGlobals "int" = some none)
    (z_isinstance : PySem.W.nsIn K mainGlobals "isinstance" = some none)
    (z_len : PySem.W.nsIn K mainGlobals "len" = some none)
    (z_list : PySem.W.nsIn K mainGlobals "list" = some none)
    (z_range : PySem.W.nsIn K mainGlobals "range" = some none)
    (z_repr : PySem.W.nsIn K mainGlobals "repr" = some none)
    (z_set : PySem.W.nsIn K mainGlobals "set" = some none)
    (z_str : PySem.W.nsIn K mainGlobals "str" = some none)
    (z_tuple : PySem.W.nsIn K mainGlobals "tuple" = some none)
    {t_LONGEST_NAME : Tok} (q_LONGEST_NAME : PySem.W.nsIn K mainGlobals "LONGEST_NAME" = some (some (.int 8 t_LONGEST_NAME)))
    {t_LONGEST_TEXT : Tok} (q_LONGEST_TEXT : PySem.W.nsIn K mainGlobals "LONGEST_TEXT" = some (some (.int 20 t_LONGEST_TEXT)))
    {t_LARGEST : Tok} (q_LARGEST : PySem.W.nsIn K mainGlobals "LARGEST" = some (some (.int 1000000000000000000 t_LARGEST))) :
    ∃ fd : FuncData, (∀ (s : Shared) (u : Value), BindsTo s fd ⟨[u], []⟩ [("_law_script", u)]) ∧ ∀ base : Heap, K.In base → base.Ns mainGlobals mg → FnG PySem.Challenge.pw_leancatalog_k20_queries_known w K mg base 14 fa fd ["_law_script"] m_law := by
  have e := hfa.symm.trans (PySem.W.mg_of X G a27)
  cases e
  have F0 := fun_mk (st := st_is_tuple) l0 c0 k0
  have b0 := F0.binds (ps := ["thing", "least", "most"]) fun _ _ _ _ _ _ us hl => match us, hl with | [_, _, _], _ => rfl
  have F1 := fun_mk (st := st_is_name) l1 c1 k1
  have b1 := F1.binds (ps := ["thing"]) fun _ _ _ _ _ _ us hl => match us, hl with | [_], _ => rfl
  have F2 := fun_mk (st := st_is_ref) l2 c2 k2
  have b2 := F2.binds (ps := ["thing"]) fun _ _ _ _ _ _ us hl => match us, hl with | [_], _ => rfl
  have F3 := fun_mk (st := st_is_source) l3 c3 k3
  have b3 := F3.binds (ps := ["thing"]) fun _ _ _ _ _ _ us hl => match us, hl with | [_], _ => rfl
  have F4 := fun_mk (st := st_is_integer) l4 c4 k4
  have b4 := F4.binds (ps := ["thing"]) fun _ _ _ _ _ _ us hl => match us, hl with | [_], _ => rfl
  have F5 := fun_mk (st := st_is_constant) l5 c5 k5
  have b5 := F5.binds (ps := ["thing"]) fun _ _ _ _ _ _ us hl => match us, hl with | [_], _ => rfl
  have F6 := fun_mk (st := st_is_field) l6 c6 k6
  have b6 := F6.binds (ps := ["thing", "aliases"]) fun _ _ _ _ _ _ us hl => match us, hl with | [_, _], _ => rfl
  have F7 := fun_mk (st := st_is_side) l7 c7 k7
  have b7 := F7.binds (ps := ["thing", "aliases"]) fun _ _ _ _ _ _ us hl => match us, hl with | [_, _], _ => rfl
  have F8 := fun_mk (st := st_is_condition) l8 c8 k8
  have b8 := F8.binds (ps := ["thing", "aliases"]) fun _ _ _ _ _ _ us hl => match us, hl with | [_, _], _ => rfl
  have F9 := fun_mk (st := st_is_part) l9 c9 k9
  have b9 := F9.binds (ps := ["thing"]) fun _ _ _ _ _ _ us hl => match us, hl with | [_], _ => rfl
  have F10 := fun_mk (st := st_is_query) l10 c10 k10
  have b10 := F10.binds (ps := ["thing"]) fun _ _ _ _ _ _ us hl => match us, hl with | [_], _ => rfl
  have F11 := fun_mk (st := st_sources_in) l11 c11 k11
  have b11 := F11.binds (ps := ["query"]) fun _ _ _ _ _ _ us hl => match us, hl with | [_], _ => rfl
  have F12 := fun_mk (st := st_law_bag) l12 c12 k12
  have b12 := F12.binds (ps := ["_law_script"]) fun _ _ _ _ _ _ us hl => match us, hl with | [_], _ => rfl
  have F13 := fun_mk (st := st_law_take) l13 c13 k13
  have b13 := F13.binds (ps := ["_law_bag_here", "_law_many"]) fun _ _ _ _ _ _ us hl => match us, hl with | [_, _], _ => rfl
  have F14 := fun_mk (st := st_law_alike) l14 c14 k14
  have b14 := F14.binds (ps := ["_law_found", "_law_due"]) fun _ _ _ _ _ _ us hl => match us, hl with | [_, _], _ => rfl
  have F15 := fun_mk (st := st_law_names) l15 c15 k15
  have b15 := F15.binds (ps := ["_law_bag_here", "_law_many"]) fun _ _ _ _ _ _ us hl => match us, hl with | [_, _], _ => rfl
  have F16 := fun_mk (st := st_law_bent) l16 c16 k16
  have b16 := F16.binds (ps := ["_law_bag_here", "_law_thing"]) fun _ _ _ _ _ _ us hl => match us, hl with | [_, _], _ => rfl
  have F17 := fun_mk (st := st_law_is_name) l17 c17 k17
  have b17 := F17.binds (ps := ["_law_thing"]) fun _ _ _ _ _ _ us hl => match us, hl with | [_], _ => rfl
  have F18 := fun_mk (st := st_law_is_ref) l18 c18 k18
  have b18 := F18.binds (ps := ["_law_thing"]) fun _ _ _ _ _ _ us hl => match us, hl with | [_], _ => rfl
  have F19 := fun_mk (st := st_law_whole) l19 c19 k19
  have b19 := F19.binds (ps := ["_law_thing", "_law_low", "_law_high"]) fun _ _ _ _ _ _ us hl => match us, hl with | [_, _, _], _ => rfl
  have F20 := fun_mk (st := st_law_is_side) l20 c20 k20
  have b20 := F20.binds (ps := ["_law_thing", "_law_aliases"]) fun _ _ _ _ _ _ us hl => match us, hl with | [_, _], _ => rfl
  have F21 := fun_mk (st := st_law_is_part) l21 c21 k21
  have b21 := F21.binds (ps := ["_law_thing"]) fun _ _ _ _ _ _ us hl => match us, hl with | [_], _ => rfl
  have F22 := fun_mk (st := st_law_is_query) l22 c22 k22
  have b22 := F22.binds (ps := ["_law_thing"]) fun _ _ _ _ _ _ us hl => match us, hl with | [_], _ => rfl
  have F23 := fun_mk (st := st_law_ref) l23 c23 k23
  have b23 := F23.binds (ps := ["_law_bag_here", "_law_names_here"]) fun _ _ _ _ _ _ us hl => match us, hl with | [_, _], _ => rfl
  have F24 := fun_mk (st := st_law_some_side) l24 c24 k24
  have b24 := F24.binds (ps := ["_law_bag_here", "_law_names_here", "_law_aliases"]) fun _ _ _ _ _ _ us hl => match us, hl with | [_, _, _], _ => rfl
  have F25 := fun_mk (st := st_law_some_part) l25 c25 k25
  have b25 := F25.binds (ps := ["_law_bag_here", "_law_names_here", "_law_many"]) fun _ _ _ _ _ _ us hl => match us, hl with | [_, _, _], _ => rfl
  have F26 := fun_mk (st := st_law_sources) l26 c26 k26
  have b26 := F26.binds (ps := ["_law_query"]) fun _ _ _ _ _ _ us hl => match us, hl with | [_], _ => rfl
  have F27 := fun_mk (st := st_law) l27 c27 k27
  have b27 := F27.binds (ps := ["_law_script"]) fun _ _ _ _ _ _ us hl => match us, hl with | [_], _ => rfl
  let T : Txt K w mg := {
    f_is_tuple := F0, g_is_tuple := PySem.W.mg_of X G a0, b_is_tuple := b0,
    f_is_name := F1, g_is_name := PySem.W.mg_of X G a1, b_is_name := b1,
    f_is_ref := F2, g_is_ref := PySem.W.mg_of X G a2, b_is_ref := b2,
    f_is_source := F3, g_is_source := PySem.W.mg_of X G a3, b_is_source := b3,
    f_is_integer := F4, g_is_integer := PySem.W.mg_of X G a4, b_is_integer := b4,
    f_is_constant := F5, g_is_constant := PySem.W.mg_of X G a5, b_is_constant := b5,
    f_is_field := F6, g_is_field := PySem.W.mg_of X G a6, b_is_field := b6,
    f_is_side := F7, g_is_side := PySem.W.mg_of X G a7, b_is_side := b7,
    f_is_condition := F8, g_is_condition := PySem.W.mg_of X G a8, b_is_condition := b8,
    f_is_part := F9, g_is_part := PySem.W.mg_of X G a9, b_is_part := b9,
    f_is_query := F10, g_is_query := PySem.W.mg_of X G a10, b_is_query := b10,
    f_sources_in := F11, g_sources_in := PySem.W.mg_of X G a11, b_sources_in := b11,
    f_law_bag := F12, g_law_bag := PySem.W.mg_of X G a12, b_law_bag := b12,
    f_law_take := F13, g_law_take := PySem.W.mg_of X G a13, b_law_take := b13,
    f_law_alike := F14, g_law_alike := PySem.W.mg_of X G a14, b_law_alike := b14,
    f_law_names := F15, g_law_names := PySem.W.mg_of X G a15, b_law_names := b15,
    f_law_bent := F16, g_law_bent := PySem.W.mg_of X G a16, b_law_bent := b16,
    f_law_is_name := F17, g_law_is_name := PySem.W.mg_of X G a17, b_law_is_name := b17,
    f_law_is_ref := F18, g_law_is_ref := PySem.W.mg_of X G a18, b_law_is_ref := b18,
    f_law_whole := F19, g_law_whole := PySem.W.mg_of X G a19, b_law_whole := b19,
    f_law_is_side := F20, g_law_is_side := PySem.W.mg_of X G a20, b_law_is_side := b20,
    f_law_is_part := F21, g_law_is_part := PySem.W.mg_of X G a21, b_law_is_part := b21,
    f_law_is_query := F22, g_law_is_query := PySem.W.mg_of X G a22, b_law_is_query := b22,
    f_law_ref := F23, g_law_ref := PySem.W.mg_of X G a23, b_law_ref := b23,
    f_law_some_side := F24, g_law_some_side := PySem.W.mg_of X G a24, b_law_some_side := b24,
    f_law_some_part := F25, g_law_some_part := PySem.W.mg_of X G a25, b_law_some_part := b25,
    f_law_sources := F26, g_law_sources := PySem.W.mg_of X G a26, b_law_sources := b26,
    f_law := F27, g_law := PySem.W.mg_of X G a27, b_law := b27,
    n_abs := PySem.W.mg_none_of X G z_abs,
    n_all := PySem.W.mg_none_of X G z_all,
    n_bool := PySem.W.mg_none_of X G z_bool,
    n_enumerate := PySem.W.mg_none_of X G z_enumerate,
    n_int := PySem.W.mg_none_of X G z_int,
    n_isinstance := PySem.W.mg_none_of X G z_isinstance,
    n_len := PySem.W.mg_none_of X G z_len,
    n_list := PySem.W.mg_none_of X G z_list,
    n_range := PySem.W.mg_none_of X G z_range,
    n_repr := PySem.W.mg_none_of X G z_repr,
    n_set := PySem.W.mg_none_of X G z_set,
    n_str := PySem.W.mg_none_of X G z_str,
    n_tuple := PySem.W.mg_none_of X G z_tuple,
    g_LONGEST_NAME := PySem.W.mg_of X G q_LONGEST_NAME,
    g_LONGEST_TEXT := PySem.W.mg_of X G q_LONGEST_TEXT,
    g_LARGEST := PySem.W.mg_of X G q_LARGEST }
  exact ⟨PySem.W.fnOf "law" "law" (defArgs st_law) (defBody st_law) (defScope st_law) .none kV27 dc27 pm27 an27 cd27 ct27, fun s v => .of_eq rfl, fun base _ _ => ok_law T⟩
end LAW
/-! K20Y -/
namespace LAW
open PySem PySem.Spec PyProof.Rows L2 DL SH SW SX
local macro_rules | `(tactic| walk_at "sl") => `(tactic| simp only [we_var, we_c, we_bin, we_call, wa_nil, wa_cons, we_tup, we_lst, we_cel, we_dic, we_neg, wo_np, wo_pt, we_sl, we_isi, we_st0, we_din, we_dix, we_andV, we_orV, we_notV, we_if, we_chn, we_get2, wt_bl, wt_tr, wt_not, wt_and, wt_or, wt_yes, ws_next, ws_seq, ws_ret, ws_drop, ws_set, ws_if, ws_brk, ws_cnt, ws_asg, ws_par, ws_aug, wf_fn, wa_sq, wa_rg, we_app, we_ext, we_pop, on_some, intOf_int, strOf_str, blOf_bl, nx_nx, nx_rt, nx_bk, nx_ct, rt_rt, rt_nx, tn_nx, tn_ct, tn_bk, tn_rt, at_zero, at_succ, wipe_nil, wipe_cons, on_gN, on_gT, on_gNl, on_gCn, wb_addI, wb_addS, wb_addL, wb_addT, wb_subI, wb_mulI, wb_mulL, wb_mulS, wb_mulT, wb_mod, wb_div, wb_pow, wb_cmp, wb_eqI, wb_eqS, wb_eqB, wb_neI, wb_neS, wb_isN, wb_ixT0, wb_ixT1, wb_ixT2, wb_ixL0, wb_ixL1, wb_ixL2, wf_lenT, wf_lenL, wf_lenS, wf_intI, wf_intB, wf_tupL, wf_tupT, wf_lisT, wf_lisL, wf_min, slT, slL, slS, on_trB, on_trT, on_trL, itT, itL, itS, cut1, List.set_cons_zero, List.set_cons_succ, List.map_cons, List.map_nil, List.length_cons, List.length_nil, Nat.reduceAdd, Nat.reduceSub, List.replicate_succ, List.replicate_zero, List.cons_append, List.nil_append, List.append_nil, if_true, if_false, Bool.false_eq_true, Bool.not_true, Bool.not_false, List.getElem?_cons_zero, List.getElem?_cons_succ, List.drop_succ_cons, List.drop_zero, isOf_non, isOf_bl, isOf_int, isOf_str, isOf_tup, isOf_lst, isOf_rol, isOf_dct, isA, String.reduceBEq, Bool.or_self, Bool.false_or, Bool.or_false, Bool.and_false, Bool.false_and, Bool.and_true, Bool.true_and, Bool.true_or, Bool.or_true, Bool.and_self, ofs_beq, cast0, cast1, cast2, cast3, cast4, cast5, beq_self_eq_true, Int.reduceLE, Int.reduceLT, Int.reduceAdd, Int.reduceSub, Int.reduceNeg, decide_true, decide_false, we_lc, we_lcC, ws_for, Nat.reduceLeDiff, true_and, and_true, Int.reduceToNat, List.reduceReplicate, List.flatten_cons, List.flatten_nil, Nat.reduceMul, Nat.reducePow, abs10, getO_str, Nat.reduceLT])
variable {S T : Sto} {Q : D → Sto → Prop} {ρ : Env'}
theorem l_alike_loc {n : Nat} {l : List Rf} (e : S[n]? = some (some (l.map Rf.d))) (h : ∀ x ∈ l, x.ok = true) (hl : l.length ≤ 2000) : m_law_alike [.loc n, .lst (l.map Rf.d)] S = some (.bl true, S) := by
  have hs : see S (.loc n) = .lst (l.map Rf.d) := by
    show (match S[n]? with
      | some (some c) => D.lst c
      | _ => .loc n) = _
    rw [e]
  have hs2 : see S (.lst (l.map Rf.d)) = .lst (l.map Rf.d) := rfl
  have hc := rfs_cmp h
  have hf : Fit 45000 60 60 (.lst (l.map Rf.d)) := by
    have := fits_all (n := 20) (h := 1) (t := 1) (xs := l.map Rf.d) fun x hx => by
      obtain ⟨r, hr, rfl⟩ := List.mem_map.mp hx
      exact rf_fit (h r hr)
    rw [List.length_map] at this
    exact (this.lst (u := 60)).mono (by omega) (by decide) (Nat.le_refl _)
  refine wf_eq ?_
  unfold m_law_alike b_law_alike
  walk_at "sl"
  have e1 : fEq (.loc n) (.lst (l.map Rf.d)) S = some (.bl true, S) := by
    unfold fEq
    rw [if_neg (by simp [scalD]), hs, hs2, if_pos ⟨hc, hc⟩, eqv_self (D.cmpf hc)]
  rw [wb_is e1]
  try walk_at "sl"
  have e2 : fRepr [.loc n] S = some (D.str (D.lst (l.map Rf.d)).py.shown, S) := by
    show (if (see S (.loc n)).shb = true then some (D.str (see S (.loc n)).py.shown, S) else none) = _
    rw [hs, if_pos (hf.shb (Nat.le_refl _) (Nat.le_refl _))]
  rw [wf_is e2]
  try walk_at "sl"
  rw [wf_is (hf.repr (Nat.le_refl _) (Nat.le_refl _))]
  try walk_at "sl"
set_option hygiene false in
local macro_rules | `(tactic| walk_at "rest") => `(tactic| (
  refine l_bent 11 fo (Nat.le_trans fo.tp (by decide)) (by decide) z13 fun oth2 S14 z14 fo2 => ?_
  have fo2' : Fit 17000 20 20 oth2 := fo2.mono (by decide) (by decide) (by decide)
  refine wr_inv (I := fun ρ S => ∃ o8 o9 o10, ρ = [some (.rol (ns.map D.int)), some (.loc 0), some e, some (.lst nm), some (.int many), some (.tup rs), some oth, some od, o8, o9, o10, o11, none] ∧ Dz S) ⟨_, _, _, rfl, ⟨_, z14⟩⟩ ?_ ?_
  · rintro d hd ρ S15 ⟨q8, q9, q10, rfl, z15⟩
    have fd : Fit 17000 20 20 d := by
      revert d
      simp only [List.forall_mem_cons]
      exact ⟨fq', fo', fo2', fod, fq', fun _ h => nomatch h⟩
    have ad : Any d := fd.any (by decide)
    try walk_at "sl"
    rw [wf_is (fd.repr (by decide) (by decide))]
    try walk_at "sl"
    refine ⟨⟨by decide, by decide⟩, ?_⟩
    refine wr_inv (I := fun ρ S => ∃ o10, ρ = [some (.rol (ns.map D.int)), some (.loc 0), some e, some (.lst nm), some (.int many), some (.tup rs), some oth, some od, some d, some (.str d.py.shown), o10, o11, none] ∧ Dz S) ⟨_, rfl, z15⟩ ?_ ?_
    · rintro e2 he2 ρ S16 ⟨r10, rfl, z16⟩
      try walk_at "sl"
      rw [wf_is (p_query ad)]
      obtain ⟨X, eq2⟩ := l_query (S := S16) ad
      rw [wf_is eq2, wf_is l_alike]
      try walk_at "sl"
      rw [wf_is (fd.repr (by decide) (by decide))]
      try walk_at "sl"
      exact ⟨_, rfl, z16.app⟩
    · rintro ρ S16 ⟨r10, rfl, z16⟩
      exact ⟨_, _, _, rfl, z16⟩
  · rintro ρ S15 ⟨q8, q9, q10, rfl, z15⟩
    have aq : Any (.tup rs) := fq'.any (by decide)
    try walk_at "sl"
    obtain ⟨X, eq2⟩ := l_query (S := S15) aq
    rw [wf_is eq2]
    try walk_at "sl"
    cases hq : qryAny (.tup rs) with
    | false =>
      simp only [Bool.false_eq_true, if_false]
      exact ⟨_, _, _, _, _, _, _, _, _, _, rfl, z15.app⟩
    | true =>
      simp only [if_true]
      have hall : ∀ p ∈ rs, PartOk p := fun p hp => by
        have hq : (((decide (1 ≤ (rs.length : Int)) && decide ((rs.length : Int) ≤ 4)) && rs.all partAny) && (unl (rs.map outN) (rs.map outN).length == 1)) = true := hq
        rw [Bool.and_eq_true, Bool.and_eq_true] at hq
        exact part_ok (List.all_eq_true.mp hq.1.2 p hp)
      have hln : rs.length ≤ 5 := by omega
      have hok := firsts_ok (acc := []) (refsP_ok hall) fun _ h => nomatch h
      have hfl := firsts_len (rs := refsP rs) (acc := [])
      have hrl := refsP_len hall
      simp only [List.length_nil] at hfl
      refine ⟨by decide, ?_⟩
      refine wr_inv (I := fun ρ S => ∃ o8 o9 o10 o11, ρ = [some (.rol (ns.map D.int)), some (.loc 0), some e, some (.lst nm), some (.int many), some (.tup rs), some oth, some od, o8, o9, o10, o11, none] ∧ Dz S) ⟨_, _, _, _, rfl, z15.app⟩ ?_ ?_
      · rintro d hd ρ S16 ⟨q8, q9, q10, q11, rfl, z16⟩
        try walk_at "sl"
        rw [wf_is (sources_in hall (by omega))]
        try walk_at "sl"
        rw [wf_is (l_sources hall (by omega))]
        rw [wf_is (l_alike_loc (n := S16.length) at_last hok (by omega))]
        try walk_at "sl"
        rw [cell_last]
        try walk_at "sl"
        refine ⟨rfl, ?_⟩
        try walk_at "sl"
        rw [List.length_map]
        refine ⟨by omega, _, _, _, _, rfl, ?_⟩
        rw [set_last]
        exact z16.app
      · rintro ρ S16 ⟨q8, q9, q10, q11, rfl, z16⟩
        exact ⟨_, _, _, _, _, _, _, _, _, _, rfl, z16⟩))
theorem yes : ∀ ns : List Int, ns.length ≤ 63 → ∃ S', m_law [D.rol (ns.map D.int)] [] = some (.bl true, S') := by
  intro ns hns
  have key : WF m_law [D.rol (ns.map D.int)] [] fun v S' => v = .bl true := by
    unfold m_law b_law
    try walk_at "sl"
    obtain ⟨S0, e0, d0⟩ := bag ns hns
    rw [wf_is (show m_law_bag [D.rol (ns.map D.int)] [] = some (.loc 0, S0) from e0)]
    try walk_at "sl"
    refine ⟨⟨by decide, by decide⟩, ?_⟩
    refine wr_inv (I := fun ρ S => ∃ o2 o3 o4 o5 o6 o7 o8 o9 o10 o11, ρ = [some (.rol (ns.map D.int)), some (.loc 0), o2, o3, o4, o5, o6, o7, o8, o9, o10, o11, none] ∧ Dz S) ⟨_, _, _, _, _, _, _, _, _, _, rfl, ⟨_, d0⟩⟩ ?_ ?_
    · rintro e he ρ S1 ⟨o2, o3, o4, o5, o6, o7, o8, o9, o10, o11, rfl, T1, z1⟩
      try walk_at "sl"
      refine l_take z1 (by decide) (by decide) fun v S2 v0 v1 z2 => ?_
      obtain ⟨i, rfl⟩ := Int.eq_ofNat_of_zero_le v0
      try walk_at "sl"
      obtain ⟨nm, S3, e3, z3, nl, nn⟩ := names (n := 4 + i) z2 (by omega)
      have e3' : m_law_names [.loc 0, .int (4 + (i : Nat))] S2 = some (.lst nm, S3) := by
        have : (4 + ((i : Nat) : Int)) = ((4 + i : Nat) : Int) := by omega
        rw [this]
        exact e3
      rw [wf_is e3']
      have N : Ns nm := ⟨by omega, nn⟩
      try walk_at "sl"
      refine l_take z3 (by decide) (by decide) fun m1 S4 a0 a1 z4 => ?_
      try walk_at "sl"
      refine l_take z4 (by decide) (by decide) fun m2 S5 b0 b1 z5 => ?_
      try walk_at "sl"
      refine l_take z5 (by decide) (by decide) fun m3 S6 c0 c1 z6 => wb_ix c0 (by exact c1) fun x hx => ?_
      obtain ⟨many, rfl, y1, y7⟩ : ∃ j : Int, x = .int j ∧ 1 ≤ j ∧ j ≤ 7 := by
        revert x
        simp only [List.forall_mem_cons]
        exact ⟨⟨_, rfl, by omega, by omega⟩, ⟨_, rfl, by omega, by omega⟩, fun _ h => nomatch h⟩
      try walk_at "sl"
      refine l_take z6 (by decide) (by decide) fun m4 S7 f0 f1 z7 => wb_ix f0 (by exact f1) fun x hx => ?_
      obtain ⟨w, rfl, w1, w5⟩ : ∃ j : Int, x = .int j ∧ 1 ≤ j ∧ j ≤ 5 := by
        revert x
        simp only [List.forall_mem_cons]
        exact ⟨⟨_, rfl, by omega, by omega⟩, ⟨_, rfl, by omega, by omega⟩, fun _ h => nomatch h⟩
      try walk_at "sl"
      refine l_take z7 w1 (by omega) fun m5 S8 g0 g1 z8 => ?_
      try walk_at "sl"
      refine ⟨by omega, by rw [upTo_len]; omega, ?_⟩
      refine wl_inv (P := Dz) (R := Fit 800 4 4) ⟨_, z8⟩ (fun d hd S9 z9 => ?_) fun rs S9 z9 hr fr => ?_
      · walk_at "sl"
        exact l_part_d N y1 (by omega) z9 fun d S' z' f => ⟨z', f⟩
      rw [upTo_len] at hr
      have frs := (fits_all fr).mono (n' := 4000) (h' := 4) (t' := 4) (by omega) (Nat.le_refl _) (Nat.le_refl _)
      have fq : Fit 4001 5 5 (.tup rs) := frs.tup
      obtain ⟨T9, z9⟩ := z9
      try walk_at "sl"
      refine l_bent 11 fq (Nat.le_trans fq.tp (by decide)) (by decide) z9 fun oth S10 z10 fo => ?_
      have fq' : Fit 17000 20 20 (.tup rs) := fq.mono (by decide) (by decide) (by decide)
      have fo' : Fit 17000 20 20 oth := fo.mono (by decide) (by decide) (by decide)
      refine l_take z10 (by decide) (by decide) fun p1 S11 h0 h1 z11 => wb_ix h0 (by exact h1) fun od hod => ?_
      have fod : Fit 17000 20 20 od := by
        revert od
        simp only [List.forall_mem_cons]
        exact ⟨fit_of (by decide +kernel), fit_of (by decide +kernel), fit_of (by decide +kernel), fit_of (by decide +kernel), fit_of (by decide +kernel), fit_of (by decide +kernel), fit_of (by decide +kernel), (tup_ok fq).mono (by decide) (by decide) (by decide), (frs.lst (u := 20)).mono (by decide) (by decide) (by decide), fun _ h => nomatch h⟩
      refine l_take z11 (by decide) (by decide) fun p2 S12 i0 i1 z12 => ?_
      rw [wb_eqI, blOf_bl, on_some]
      by_cases hp : (p2 == 0) = true
      · rw [if_pos hp]
        refine l_part_d N (by omega) (by omega) ⟨_, z12⟩ fun pt S13 z13 fpt => ?_
        obtain ⟨T13, z13⟩ := z13
        refine ⟨by omega, ?_⟩
        have fod : Fit 17000 20 20 (.tup (rs ++ [pt])) := ((Fits.app frs (Fits.cons fpt Fits.nil)).tup).mono (by decide) (by decide) (by decide)
        generalize D.tup (rs ++ [pt]) = od at fod ⊢
        walk_at "rest"
      · rw [if_neg hp]
        have z13 := z12
        walk_at "rest"
    · rintro ρ S2 ⟨o2, o3, o4, o5, o6, o7, o8, o9, o10, o11, rfl, z2⟩
      try walk_at "sl"
  obtain ⟨v, S', e, rfl⟩ := key
  exact ⟨S', e⟩
end LAW
/-! K20E -/
open PySem PySem.W PyProof.Rows
set_option maxHeartbeats 0 in
theorem PySem.Challenge.cw_leancatalog_k20_queries_known_holds : PySem.Challenge.rw_leancatalog_k20_queries_known.Holds := by
  w_on; o_law; k_head; (case hw => w_witness2)
  k_fill
  refine DL.walkG (l := PySem.Challenge.rw_leancatalog_k20_queries_known) (n := 63) (k := 14) (x := "_law_script") (m := LAW.m_law) rfl (by rw [sizeLine_eq]; decide) rfl ⟨rfl, by decide, by decide⟩ (fun w h Y => PySem.W.kIn_of Y) ?F LAW.yes
  case F =>
    intro w mg fa h KX G hmg
    refine' LAW.all_mk KX G hmg ?a0 ?l0 ?c0 ?k0 ?a1 ?l1 ?c1 ?k1 ?a2 ?l2 ?c2 ?k2 ?a3 ?l3 ?c3 ?k3 ?a4 ?l4 ?c4 ?k4 ?a5 ?l5 ?c5 ?k5 ?a6 ?l6 ?c6 ?k6 ?a7 ?l7 ?c7 ?k7 ?a8 ?l8 ?c8 ?k8 ?a9 ?l9 ?c9 ?k9 ?a10 ?l10 ?c10 ?k10 ?a11 ?l11 ?c11 ?k11 ?a12 ?l12 ?c12 ?k12 ?a13 ?l13 ?c13 ?k13 ?a14 ?l14 ?c14 ?k14 ?a15 ?l15 ?c15 ?k15 ?a16 ?l16 ?c16 ?k16 ?a17 ?l17 ?c17 ?k17 ?a18 ?l18 ?c18 ?k18 ?a19 ?l19 ?c19 ?k19 ?a20 ?l20 ?c20 ?k20 ?a21 ?l21 ?c21 ?k21 ?a22 ?l22 ?c22 ?k22 ?a23 ?l23 ?c23 ?k23 ?a24 ?l24 ?c24 ?k24 ?a25 ?l25 ?c25 ?k25 ?a26 ?l26 ?c26 ?k26 ?a27 ?l27 ?c27 ?k27 ?z_abs ?z_all ?z_bool ?z_enumerate ?z_int ?z_isinstance ?z_len ?z_list ?z_range ?z_repr ?z_set ?z_str ?z_tuple ?q_LONGEST_NAME ?q_LONGEST_TEXT ?q_LARGEST
    (case a0 => k_is)
    (case l0 => k_is)
    (case c0 => k_is)
    (case k0 => k_is)
    (case a1 => k_is)
    (case l1 => k_is)
    (case c1 => k_is)
    (case k1 => k_is)
    (case a2 => k_is)
    (case l2 => k_is)
    (case c2 => k_is)
    (case k2 => k_is)
    (case a3 => k_is)
    (case l3 => k_is)
    (case c3 => k_is)
    (case k3 => k_is)
    (case a4 => k_is)
    (case l4 => k_is)
    (case c4 => k_is)
    (case k4 => k_is)
    (case a5 => k_is)
    (case l5 => k_is)
    (case c5 => k_is)
    (case k5 => k_is)
    (case a6 => k_is)
    (case l6 => k_is)
    (case c6 => k_is)
    (case k6 => k_is)
    (case a7 => k_is)
    (case l7 => k_is)
    (case c7 => k_is)
    (case k7 => k_is)
    (case a8 => k_is)
    (case l8 => k_is)
    (case c8 => k_is)
    (case k8 => k_is)
    (case a9 => k_is)
    (case l9 => k_is)
    (case c9 => k_is)
    (case k9 => k_is)
    (case a10 => k_is)
    (case l10 => k_is)
    (case c10 => k_is)
    (case k10 => k_is)
    (case a11 => k_is)
    (case l11 => k_is)
    (case c11 => k_is)
    (case k11 => k_is)
    (case a12 => k_is)
    (case l12 => k_is)
    (case c12 => k_is)
    (case k12 => k_is)
    (case a13 => k_is)
    (case l13 => k_is)
    (case c13 => k_is)
    (case k13 => k_is)
    (case a14 => k_is)
    (case l14 => k_is)
    (case c14 => k_is)
    (case k14 => k_is)
    (case a15 => k_is)
    (case l15 => k_is)
    (case c15 => k_is)
    (case k15 => k_is)
    (case a16 => k_is)
    (case l16 => k_is)
    (case c16 => k_is)
    (case k16 => k_is)
    (case a17 => k_is)
    (case l17 => k_is)
    (case c17 => k_is)
    (case k17 => k_is)
    (case a18 => k_is)
    (case l18 => k_is)
    (case c18 => k_is)
    (case k18 => k_is)
    (case a19 => k_is)
    (case l19 => k_is)
    (case c19 => k_is)
    (case k19 => k_is)
    (case a20 => k_is)
    (case l20 => k_is)
    (case c20 => k_is)
    (case k20 => k_is)
    (case a21 => k_is)
    (case l21 => k_is)
    (case c21 => k_is)
    (case k21 => k_is)
    (case a22 => k_is)
    (case l22 => k_is)
    (case c22 => k_is)
    (case k22 => k_is)
    (case a23 => k_is)
    (case l23 => k_is)
    (case c23 => k_is)
    (case k23 => k_is)
    (case a24 => k_is)
    (case l24 => k_is)
    (case c24 => k_is)
    (case k24 => k_is)
    (case a25 => k_is)
    (case l25 => k_is)
    (case c25 => k_is)
    (case k25 => k_is)
    (case a26 => k_is)
    (case l26 => k_is)
    (case c26 => k_is)
    (case k26 => k_is)
    (case a27 => k_is)
    (case l27 => k_is)
    (case c27 => k_is)
    (case k27 => k_is)
    (case z_abs => k_is)
    (case z_all => k_is)
    (case z_bool => k_is)
    (case z_enumerate => k_is)
    (case z_int => k_is)
    (case z_isinstance => k_is)
    (case z_len => k_is)
    (case z_list => k_is)
    (case z_range => k_is)
    (case z_repr => k_is)
    (case z_set => k_is)
    (case z_str => k_is)
    (case z_tuple => k_is)
    (case q_LONGEST_NAME => k_is)
    (case q_LONGEST_TEXT => k_is)
    (case q_LARGEST => k_is)
