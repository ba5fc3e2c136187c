import PyProof.Rows.All
import Wide.All
import OpenK.AllK
import Wide.FinOn
import HandS.ForMost
import HandS.ForExc
import HandS.WideBits
import HandS.Wide
import HandS.IsInst
import HandS.Gcd
import HandS.Flt
import HandS.TupLe
import HandS.SortInts
import HandS.Style
import HandS.TupMul
import HandS.Star
import HandS.CallLocal
import Flt.RightSqrt
import KE.KMathG
import HandS.Lambda
import HandS.ExcIs
import HandS.EndTab
import KE.KNest
import PySem.Challenge.RW_rulesheld_k03_whole_operations
set_option Elab.async false
set_option linter.all false
set_option maxRecDepth 100000
set_option maxHeartbeats 4000000
/-! Dl: what an expression or a block is worth, over plain data; the heap is out of sight. -/
namespace Dl
open PySem PySem.Spec PyProof.Rows L2

/-! ### data in a heap, away from the addresses of S -/
abbrev AS := Addr → Prop
/-- a list, a tuple: tracked, away from S; or of the written part -/
def LsN (K : PySem.W.Frag) (S : AS) (H : Hp) (a : Addr) (xs : List V) : Prop := (¬ S a ∧ Rd H a (.lst xs)) ∨ SqL K (fun _ => none) a xs
def TpN (K : PySem.W.Frag) (S : AS) (H : Hp) (a : Addr) (xs : List V) : Prop := (¬ S a ∧ Rd H a (.tup xs)) ∨ SqT K (fun _ => none) a xs
mutual
inductive Dn (K : PySem.W.Frag) (S : AS) (H : Hp) : V → PyData → Prop
  | non : Dn K S H .non .none
  | bl (b : Bool) : Dn K S H (.bl b) (.bool b)
  | int (i : Int) : Dn K S H (.int i) (.int i)
  | str (x : Str) : Dn K S H (.str x) (.str x)
  | lst {a : Addr} {xs : List V} {ds : List PyData} : LsN K S H a xs → DnAll K S H xs ds → Dn K S H (.ref a) (.list ds)
  | tup {a : Addr} {xs : List V} {ds : List PyData} : TpN K S H a xs → DnAll K S H xs ds → Dn K S H (.ref a) (.tuple ds)
inductive DnAll (K : PySem.W.Frag) (S : AS) (H : Hp) : List V → List PyData → Prop
  | nil : DnAll K S H [] []
  | cons {v : V} {vs : List V} {d : PyData} {ds : List PyData} : Dn K S H v d → DnAll K S H vs ds → DnAll K S H (v :: vs) (d :: ds)
end
abbrev CS := Addr → HO → Prop
/-- a table of code objects -/
def Tb (o : HO) : Prop := ∃ ps, o = .tbl ps
theorem nTl {xs : List V} : ¬ Tb (.lst xs) := fun ⟨_, z⟩ => by cases z
theorem nTt {xs : List V} : ¬ Tb (.tup xs) := fun ⟨_, z⟩ => by cases z
/-- what is not in C stays -/
structure Xt (C : CS) (H H' : Hp) : Prop where
  k : ∀ a o, ¬ C a o → H a = some o → H' a = some o
abbrev C0 : CS := fun _ _ => False
theorem Xt.refl {C : CS} (H : Hp) : Xt C H H := ⟨fun _ _ _ h => h⟩
theorem Xt.trans {C : CS} {H H1 H2 : Hp} (a : Xt C H H1) (b : Xt C H1 H2) : Xt C H H2 := ⟨fun x o c h => b.k x o c (a.k x o c h)⟩
theorem Xt.of0 {C : CS} {H H' : Hp} (a : Xt C0 H H') : Xt C H H' := ⟨fun x o _ h => a.k x o (fun z => z) h⟩
theorem Xt.mono {C D : CS} {H H' : Hp} (a : Xt C H H') (h : ∀ x o, C x o → D x o) : Xt D H H' := ⟨fun x o c e => a.k x o (fun z => c (h x o z)) e⟩
theorem Xt.put {C : CS} {H : Hp} {p : Addr} {o : HO} (h : (∀ u, C p u) ∨ H p = none) : Xt C H (upd H p o) := ⟨fun a u c e => by
  have hne : a ≠ p := fun z => by
    subst z
    rcases h with h | h
    · exact c (h u)
    · rw [h] at e; cases e
  rw [upd_ne hne]
  exact e⟩
theorem Xt.new {C : CS} {H : Hp} {p : Addr} {o : HO} (h : H p = none) : Xt C H (upd H p o) := .put (.inr h)
theorem Xt.put2 {C : CS} {H H5 : Hp} {p : Addr} {o : HO} (e : Xt C H H5) (h : H p = none) : Xt C H (upd H5 p o) := ⟨fun a u c q => by
  have hne : a ≠ p := fun z => by
    subst z
    rw [h] at q; cases q
  rw [upd_ne hne]
  exact e.k a u c q⟩
theorem rd_mono {C : CS} {H H' : Hp} {a : Addr} {u : HO} (e : Xt C H H') (hn : ∀ o, ¬ Tb o → ¬ C a o) (hu : ¬ Tb u) (h : Rd H a u) : Rd H' a u := by
  rcases h with h | ⟨o, h⟩
  · exact .inl (e.k _ _ (hn _ hu) h)
  · exact .inr ⟨o, e.k _ _ (hn _ fun ⟨_, z⟩ => by cases z) h⟩
theorem sql_mono {K : PySem.W.Frag} {C : CS} {H H' : Hp} {a : Addr} {xs : List V} (e : Xt C H H') (hn : ∀ o, ¬ Tb o → ¬ C a o) (h : SqL K H a xs) : SqL K H' a xs := by
  rcases h with h | h
  · exact .inl (rd_mono e hn nTl h)
  · exact .inr h
theorem sqt_mono {K : PySem.W.Frag} {C : CS} {H H' : Hp} {a : Addr} {xs : List V} (e : Xt C H H') (hn : ∀ o, ¬ Tb o → ¬ C a o) (h : SqT K H a xs) : SqT K H' a xs := by
  rcases h with h | h
  · exact .inl (rd_mono e hn nTt h)
  · exact .inr h
theorem sql_w {K : PySem.W.Frag} {H : Hp} {a : Addr} {xs : List V} (h : SqL K (fun _ => none) a xs) : SqL K H a xs := by
  rcases h with (h | ⟨o, h⟩) | h
  · cases h
  · cases h
  · exact .inr h
theorem sqt_w {K : PySem.W.Frag} {H : Hp} {a : Addr} {xs : List V} (h : SqT K (fun _ => none) a xs) : SqT K H a xs := by
  rcases h with (h | ⟨o, h⟩) | h
  · cases h
  · cases h
  · exact .inr h
theorem LsN.sq {K : PySem.W.Frag} {S : AS} {H : Hp} {a : Addr} {xs : List V} (h : LsN K S H a xs) : SqL K H a xs := by
  rcases h with ⟨_, h⟩ | h
  · exact .inl h
  · exact sql_w h
theorem TpN.sq {K : PySem.W.Frag} {S : AS} {H : Hp} {a : Addr} {xs : List V} (h : TpN K S H a xs) : SqT K H a xs := by
  rcases h with ⟨_, h⟩ | h
  · exact .inl h
  · exact sqt_w h
theorem LsN.mono {K : PySem.W.Frag} {S : AS} {C : CS} {H H' : Hp} {a : Addr} {xs : List V} (hC : ∀ a o, C a o → S a ∨ Tb o) (e : Xt C H H') (h : LsN K S H a xs) : LsN K S H' a xs := by
  rcases h with ⟨n, h⟩ | h
  · exact .inl ⟨n, rd_mono e (fun o ht z => (hC _ o z).elim n ht) nTl h⟩
  · exact .inr h
theorem TpN.mono {K : PySem.W.Frag} {S : AS} {C : CS} {H H' : Hp} {a : Addr} {xs : List V} (hC : ∀ a o, C a o → S a ∨ Tb o) (e : Xt C H H') (h : TpN K S H a xs) : TpN K S H' a xs := by
  rcases h with ⟨n, h⟩ | h
  · exact .inl ⟨n, rd_mono e (fun o ht z => (hC _ o z).elim n ht) nTt h⟩
  · exact .inr h
theorem LsN.less {K : PySem.W.Frag} {S T : AS} {H : Hp} {a : Addr} {xs : List V} (hT : ∀ b, Rd H b (.lst xs) → T b → S b) (h : LsN K S H a xs) : LsN K T H a xs := by
  rcases h with ⟨n, h⟩ | h
  · exact .inl ⟨fun z => n (hT _ h z), h⟩
  · exact .inr h
theorem TpN.less {K : PySem.W.Frag} {S T : AS} {H : Hp} {a : Addr} {xs : List V} (hT : ∀ b, Rd H b (.tup xs) → T b → S b) (h : TpN K S H a xs) : TpN K T H a xs := by
  rcases h with ⟨n, h⟩ | h
  · exact .inl ⟨fun z => n (hT _ h z), h⟩
  · exact .inr h
theorem rd_some {H : Hp} {a : Addr} {u : HO} (h : Rd H a u) : H a ≠ none := by
  rcases h with h | ⟨o, h⟩ <;> rw [h] <;> exact fun z => by cases z
section
variable {K : PySem.W.Frag} {S : AS} {C : CS} {H H' : Hp}
mutual
theorem Dn.mono (hC : ∀ a o, C a o → S a ∨ Tb o) (e : Xt C H H') : ∀ (d : PyData) (v : V), Dn K S H v d → Dn K S H' v d
  | .none, _, h => by cases h; exact .non
  | .bool _, _, h => by cases h; exact .bl _
  | .int _, _, h => by cases h; exact .int _
  | .str _, _, h => by cases h; exact .str _
  | .list ds, _, h => by
    cases h with
    | lst hs ha => exact .lst (hs.mono hC e) (Dn.monoAll hC e ds _ ha)
  | .tuple ds, _, h => by
    cases h with
    | tup hs ha => exact .tup (hs.mono hC e) (Dn.monoAll hC e ds _ ha)
  | .dict _, _, h => by cases h
theorem Dn.monoAll (hC : ∀ a o, C a o → S a ∨ Tb o) (e : Xt C H H') : ∀ (ds : List PyData) (vs : List V), DnAll K S H vs ds → DnAll K S H' vs ds
  | [], _, h => by cases h; exact .nil
  | d :: ds, _, h => by
    cases h with
    | cons h1 h2 => exact .cons (Dn.mono hC e d _ h1) (Dn.monoAll hC e ds _ h2)
end
-- away from other addresses, of which none that stands is new
mutual
theorem Dn.less {T : AS} (hT : ∀ a, H a ≠ Option.none → T a → S a) : ∀ (d : PyData) (v : V), Dn K S H v d → Dn K T H v d
  | .none, _, h => by cases h; exact .non
  | .bool _, _, h => by cases h; exact .bl _
  | .int _, _, h => by cases h; exact .int _
  | .str _, _, h => by cases h; exact .str _
  | .list ds, _, h => by
    cases h with
    | lst hs ha => exact .lst (hs.less fun b r => hT b (rd_some r)) (Dn.lessAll hT ds _ ha)
  | .tuple ds, _, h => by
    cases h with
    | tup hs ha => exact .tup (hs.less fun b r => hT b (rd_some r)) (Dn.lessAll hT ds _ ha)
  | .dict _, _, h => by cases h
theorem Dn.lessAll {T : AS} (hT : ∀ a, H a ≠ Option.none → T a → S a) : ∀ (ds : List PyData) (vs : List V), DnAll K S H vs ds → DnAll K T H vs ds
  | [], _, h => by cases h; exact .nil
  | d :: ds, _, h => by
    cases h with
    | cons h1 h2 => exact .cons (Dn.less hT d _ h1) (Dn.lessAll hT ds _ h2)
end
theorem DnAll.length : ∀ {vs : List V} {ds : List PyData}, DnAll K S H vs ds → vs.length = ds.length
  | _, _, .nil => rfl
  | _, _, .cons _ t => congrArg (· + 1) (DnAll.length t)
theorem DnAll.get : ∀ {vs : List V} {ds : List PyData} {i : Nat} {d : PyData}, DnAll K S H vs ds → ds[i]? = some d → ∃ v, vs[i]? = some v ∧ Dn K S H v d
  | _, _, _, _, .nil, e => by simp at e
  | _, _, 0, _, .cons r _, e => by simp at e; subst e; exact ⟨_, rfl, r⟩
  | _, _, i + 1, d, .cons _ t, e => by
    obtain ⟨u, h1, h2⟩ := DnAll.get (i := i) (d := d) t (by simpa using e)
    exact ⟨u, by simpa using h1, h2⟩
theorem DnAll.append : ∀ {xs ys : List V} {ds es : List PyData}, DnAll K S H xs ds → DnAll K S H ys es → DnAll K S H (xs ++ ys) (ds ++ es)
  | _, _, _, _, .nil, s => s
  | _, _, _, _, .cons r t, s => .cons r (DnAll.append t s)
theorem DnAll.take : ∀ {xs : List V} {ds : List PyData} (n : Nat), DnAll K S H xs ds → DnAll K S H (xs.take n) (ds.take n)
  | _, _, 0, _ => by simp; exact .nil
  | _, _, _ + 1, .nil => by simp; exact .nil
  | _, _, n + 1, .cons r t => by simp; exact .cons r (DnAll.take n t)
theorem DnAll.drop : ∀ {xs : List V} {ds : List PyData} (n : Nat), DnAll K S H xs ds → DnAll K S H (xs.drop n) (ds.drop n)
  | _, _, 0, r => by simpa using r
  | _, _, _ + 1, .nil => by simp; exact .nil
  | _, _, n + 1, .cons r t => by simp; exact DnAll.drop n t
theorem dn_ints : ∀ {xs : List V} {ns : List Int}, DnAll K S H xs (ns.map .int) → xs = ns.map V.int
  | _, [], h => by cases h; rfl
  | _, n :: ns, h => by
    cases h with
    | cons h1 h2 => cases h1; rw [dn_ints h2]; rfl
theorem ints_dn : ∀ {ns : List Int}, DnAll K S H (ns.map V.int) (ns.map .int)
  | [] => .nil
  | _ :: _ => .cons (.int _) ints_dn
end
/-- plain values -/
def scV : PyData → Option V
  | .none => some .non
  | .bool b => some (.bl b)
  | .int i => some (.int i)
  | .str x => some (.str x)
  | _ => none
theorem Dn.sc {K : PySem.W.Frag} {S : AS} {H : Hp} {v w : V} {d : PyData} (h : Dn K S H v d) (e : scV d = some w) : v = w := by
  cases h <;> simp [scV] at e <;> exact e
theorem dn_sc {K : PySem.W.Frag} {S : AS} {H : Hp} {w : V} {d : PyData} (e : scV d = some w) : Dn K S H w d := by
  cases d <;> simp [scV] at e <;> subst e
  · exact .non
  · exact .bl _
  · exact .int _
  · exact .str _
mutual
theorem Dn.dp {K : PySem.W.Frag} {S : AS} {H : Hp} : ∀ (d : PyData) (v : V), Dn K S H v d → Dp K H v d
  | .none, _, h => by cases h; exact .non
  | .bool _, _, h => by cases h; exact .bl _
  | .int _, _, h => by cases h; exact .int _
  | .str _, _, h => by cases h; exact .str _
  | .list ds, _, h => by
    cases h with
    | lst hs ha => exact .lst hs.sq (Dn.dpAll ds _ ha)
  | .tuple ds, _, h => by
    cases h with
    | tup hs ha => exact .tup hs.sq (Dn.dpAll ds _ ha)
  | .dict _, _, h => by cases h
theorem Dn.dpAll {K : PySem.W.Frag} {S : AS} {H : Hp} : ∀ (ds : List PyData) (vs : List V), DnAll K S H vs ds → DpAll K H vs ds
  | [], _, h => by cases h; exact .nil
  | d :: ds, _, h => by
    cases h with
    | cons h1 h2 => exact .cons (Dn.dp d _ h1) (Dn.dpAll ds _ h2)
end

/-! ### frames, slots -/
/-- S: addresses that no data touches; C: those of them that may change; J: what holds of them -/
structure Fm where
  S : AS
  C : CS
  J : Hp → Prop
  sub : ∀ a o, C a o → S a ∨ Tb o
  mono : ∀ H H', Xt C0 H H' → J H → J H'
def Fm.ok (F : Fm) (H : Hp) : Prop := F.J H ∧ ∀ a, F.S a → H a ≠ none
/-- J speaks of no list that data may reach -/
def Fm.soft (F : Fm) : Prop := ∀ H H', (∀ a o, F.S a ∨ (∀ xs, o ≠ HO.lst xs) → H a = some o → H' a = some o) → F.J H → F.J H'
/-- nothing changes -/
def Fm.pure (S : AS) : Fm := ⟨S, C0, fun _ => True, fun _ _ z => z.elim, fun _ _ _ _ => trivial⟩
theorem Fm.soft_pure {S : AS} : (Fm.pure S).soft := fun _ _ _ _ => trivial
inductive Sl where
  | dat (d : PyData)
  | raw (v : V)
abbrev DE := List (Option Sl)
def SlD (K : PySem.W.Frag) (S : AS) (H : Hp) (v : V) : Sl → Prop
  | .dat d => Dn K S H v d
  | .raw w => v = w
structure StD (K : PySem.W.Frag) (S : AS) (H : Hp) (σ : L2.St) (δ : DE) : Prop where
  len : σ.length = δ.length
  at_ : ∀ (i : Nat) (s : Sl), δ[i]? = some (some s) → ∃ v, σ[i]? = some (some v) ∧ SlD K S H v s
theorem SlD.mono {K : PySem.W.Frag} {S : AS} {C : CS} {H H' : Hp} {v : V} {s : Sl} (hC : ∀ a o, C a o → S a ∨ Tb o) (e : Xt C H H') (h : SlD K S H v s) : SlD K S H' v s := by
  cases s with
  | dat d => exact Dn.mono hC e d v h
  | raw w => exact h
theorem StD.mono {K : PySem.W.Frag} {S : AS} {C : CS} {H H' : Hp} {σ : L2.St} {δ : DE} (hC : ∀ a o, C a o → S a ∨ Tb o) (e : Xt C H H') (h : StD K S H σ δ) : StD K S H' σ δ :=
  ⟨h.len, fun i s q => let ⟨v, h1, h2⟩ := h.at_ i s q; ⟨v, h1, h2.mono hC e⟩⟩
theorem StD.set {K : PySem.W.Frag} {S : AS} {H : Hp} {σ : L2.St} {δ : DE} (h : StD K S H σ δ) {v : V} {s : Sl} (j : Nat) (hv : SlD K S H v s) : StD K S H (σ.set j (some v)) (δ.set j (some s)) := by
  refine ⟨by simp [h.len], fun i t q => ?_⟩
  by_cases hj : j = i
  · subst hj
    rw [List.getElem?_set] at q
    split at q
    · rename_i hl
      split at q
      · rename_i hl2
        cases q
        refine ⟨v, ?_, hv⟩
        rw [List.getElem?_set]
        rw [if_pos rfl, if_pos (by rw [h.len]; exact hl2)]
      · cases q
    · rename_i z; exact absurd rfl z
  · rw [List.getElem?_set_ne hj] at q
    obtain ⟨w, h1, h2⟩ := h.at_ i t q
    exact ⟨w, by rw [List.getElem?_set_ne hj]; exact h1, h2⟩
theorem StD.setD {K : PySem.W.Frag} {S : AS} {H : Hp} {σ : L2.St} {δ : DE} (h : StD K S H σ δ) {v : V} {d : PyData} (j : Nat) (hv : Dn K S H v d) : StD K S H (σ.set j (some v)) (δ.set j (some (.dat d))) := h.set (s := .dat d) j hv
theorem Fm.ok.mono {F : Fm} {H H' : Hp} (h : F.ok H) (e : Xt C0 H H') : F.ok H' := ⟨F.mono _ _ e h.1, fun a s z => by
  cases q : H a with
  | none => exact h.2 a s q
  | some o => rw [e.k a o (fun z => z) q] at z; cases z⟩
/-- what no data touches stands as it was -/
theorem Fm.ok.same {F : Fm} {H H' : Hp} (hs : F.soft) (h : F.ok H) (e : ∀ a o, F.S a ∨ (∀ xs, o ≠ HO.lst xs) → H a = some o → H' a = some o) : F.ok H' := ⟨hs _ _ e h.1, fun a s z => by
  cases q : H a with
  | none => exact h.2 a s q
  | some o => rw [e a o (.inl s) q] at z; cases z⟩
theorem Fm.ok.fresh {F : Fm} {H : Hp} {p : Addr} (h : F.ok H) (hp : H p = none) : ¬ F.S p := fun s => h.2 p s hp

theorem SlD.less {K : PySem.W.Frag} {S T : AS} {H : Hp} {v : V} {s : Sl} (hT : ∀ a, H a ≠ none → T a → S a) (h : SlD K S H v s) : SlD K T H v s := by
  cases s with
  | dat d => exact Dn.less hT d v h
  | raw w => exact h
theorem StD.less {K : PySem.W.Frag} {S T : AS} {H : Hp} {σ : L2.St} {δ : DE} (hT : ∀ a, H a ≠ none → T a → S a) (h : StD K S H σ δ) : StD K T H σ δ :=
  ⟨h.len, fun i s q => let ⟨v, h1, h2⟩ := h.at_ i s q; ⟨v, h1, h2.less hT⟩⟩
/-- one address more that no data touches -/
def Fm.more (F : Fm) (D : Addr) : Fm := ⟨fun a => F.S a ∨ a = D, F.C, F.J, fun a o z => (F.sub a o z).imp .inl id, F.mono⟩
theorem Fm.soft_more {F : Fm} {D : Addr} (h : F.soft) : (F.more D).soft := fun H H' e => h H H' fun a o s => e a o (s.imp .inl id)
theorem Fm.ok.more {F : Fm} {H : Hp} {D : Addr} (h : F.ok H) (hd : H D ≠ none) : (F.more D).ok H := ⟨h.1, fun a s => by
  rcases s with s | s
  · exact h.2 a s
  · subst s; exact hd⟩
theorem Fm.ok.less {F : Fm} {H : Hp} {D : Addr} (h : (F.more D).ok H) : F.ok H := ⟨h.1, fun a s => h.2 a (.inl s)⟩

/-! ### a piece of syntax as its own reading -/
def semE (X : Cx) (e : Expr) : TE := fun σ H Q => ∀ (pins : List (Addr × Obj)) (s : Shared), Inv X pins σ H s → wpAny (model X.prog X.w) X.A (eval e X.env) (EP X pins σ Q) X.xe s
theorem pe_sem (X : Cx) (e : Expr) : PE X e (semE X e) := ⟨fun pins s σ H Q I h => h pins s I⟩
theorem _root_.L2.PE.sem {X : Cx} {e : Expr} {t : TE} (h : PE X e t) {σ : L2.St} {H : Hp} {Q : VK} (q : t σ H Q) : semE X e σ H Q := fun pins s I => h.run pins s σ H Q I q
def semT (X : Cx) (e : Expr) : TT := fun σ H Q => ∀ (pins : List (Addr × Obj)) (s : Shared), Inv X pins σ H s → wpAny (model X.prog X.w) X.A (isTrue e X.env (eval e X.env)) (TP X pins σ Q) X.xe s
theorem pt_sem (X : Cx) (e : Expr) : PT X e (semT X e) := ⟨fun pins s σ H Q I h => h pins s I⟩
theorem _root_.L2.PT.sem {X : Cx} {e : Expr} {t : TT} (h : PT X e t) {σ : L2.St} {H : Hp} {Q : Bool → Hp → Prop} (q : t σ H Q) : semT X e σ H Q := fun pins s I => h.run pins s σ H Q I q
def semA (X : Cx) (es : List Expr) : TA := fun σ H Q => ∀ (pos : Pos) (pins : List (Addr × Obj)) (s : Shared), Inv X pins σ H s → wpAny (model X.prog X.w) X.A (spliced (backTo pos (starEach es X.env))) (AP X pins σ Q) X.xe s
theorem pa_sem (X : Cx) (es : List Expr) : PA X es (semA X es) := ⟨fun pos pins s σ H Q I h => h pos pins s I⟩
theorem _root_.L2.PA.sem {X : Cx} {es : List Expr} {t : TA} (h : PA X es t) {σ : L2.St} {H : Hp} {Q : List V → Hp → Prop} (q : t σ H Q) : semA X es σ H Q := fun pos pins s I => h.run pos pins s σ H Q I q
def semS (X : Cx) (st : Stmt) : TS := fun D σ H => ∀ (pins : List (Addr × Obj)) (s : Shared), Inv X pins σ H s → wpAny (model X.prog X.w) X.A (exec st X.env) (SP X pins D) X.xe s
theorem ps_sem (X : Cx) (st : Stmt) : PS X st (semS X st) := ⟨fun pins s σ H D I h => h pins s I⟩
def semSs (X : Cx) (st : List Stmt) : TS := fun D σ H => ∀ (pins : List (Addr × Obj)) (s : Shared), Inv X pins σ H s → wpAny (model X.prog X.w) X.A (execs st X.env) (SP X pins D) X.xe s
theorem pss_sem (X : Cx) (st : List Stmt) : PSs X st (semSs X st) := ⟨fun pins s σ H D I h => h pins s I⟩
theorem _root_.L2.PSs.sem {X : Cx} {st : List Stmt} {t : TS} (h : PSs X st t) {σ : L2.St} {H : Hp} {D : Ends} (q : t D σ H) : semSs X st D σ H := fun pins s I => h.run pins s σ H D I q
theorem _root_.L2.PS.sem {X : Cx} {st : Stmt} {t : TS} (h : PS X st t) {σ : L2.St} {H : Hp} {D : Ends} (q : t D σ H) : semS X st D σ H := fun pins s I => h.run pins s σ H D I q

/-! ### the judgements -/
/-- e comes to some data of which k holds -/
def VE (F : Fm) (X : Cx) (e : Expr) (δ : DE) (k : PyData → Prop) : Prop := ∀ (σ : L2.St) (H : Hp) (Q : VK), F.ok H → StD X.K F.S H σ δ →
  (∀ (v : V) (H' : Hp) (d : PyData), Xt F.C H H' → F.ok H' → Dn X.K F.S H' v d → k d → Q v H') → semE X e σ H Q
/-- e comes to d -/
abbrev VD (F : Fm) (X : Cx) (e : Expr) (δ : DE) (d : PyData) : Prop := VE F X e δ fun x => x = d
def VT (F : Fm) (X : Cx) (e : Expr) (δ : DE) (k : Bool → Prop) : Prop := ∀ (σ : L2.St) (H : Hp) (Q : Bool → Hp → Prop), F.ok H → StD X.K F.S H σ δ →
  (∀ (b : Bool) (H' : Hp), Xt F.C H H' → F.ok H' → k b → Q b H') → semT X e σ H Q
abbrev VB (F : Fm) (X : Cx) (e : Expr) (δ : DE) (b : Bool) : Prop := VT F X e δ fun x => x = b
def VA (F : Fm) (X : Cx) (es : List Expr) (δ : DE) (k : List PyData → Prop) : Prop := ∀ (σ : L2.St) (H : Hp) (Q : List V → Hp → Prop), F.ok H → StD X.K F.S H σ δ →
  (∀ (vs : List V) (H' : Hp) (ds : List PyData), Xt F.C H H' → F.ok H' → DnAll X.K F.S H' vs ds → k ds → Q vs H') → semA X es σ H Q
abbrev VL (F : Fm) (X : Cx) (es : List Expr) (δ : DE) (ds : List PyData) : Prop := VA F X es δ fun x => x = ds
structure Out where
  nx : DE → Prop
  rt : PyData → Prop
  bk : DE → Prop := fun _ => False
  ct : DE → Prop := fun _ => False
structure EndsOk (F : Fm) (K : PySem.W.Frag) (H : Hp) (R : Out) (D : Ends) : Prop where
  nx : ∀ σ' H' δ', Xt F.C H H' → F.ok H' → StD K F.S H' σ' δ' → R.nx δ' → D.nx σ' H'
  bk : ∀ σ' H' δ', Xt F.C H H' → F.ok H' → StD K F.S H' σ' δ' → R.bk δ' → D.bk σ' H'
  ct : ∀ σ' H' δ', Xt F.C H H' → F.ok H' → StD K F.S H' σ' δ' → R.ct δ' → D.ct σ' H'
  rt : ∀ v H' d, Xt F.C H H' → F.ok H' → Dn K F.S H' v d → R.rt d → D.rt v H'
theorem EndsOk.mono {F : Fm} {K : PySem.W.Frag} {H H' : Hp} {R : Out} {D : Ends} (h : EndsOk F K H R D) (e : Xt F.C H H') : EndsOk F K H' R D :=
  ⟨fun σ' H2 δ' e2 => h.nx σ' H2 δ' (e.trans e2), fun σ' H2 δ' e2 => h.bk σ' H2 δ' (e.trans e2), fun σ' H2 δ' e2 => h.ct σ' H2 δ' (e.trans e2), fun v H2 d e2 => h.rt v H2 d (e.trans e2)⟩
def VS (F : Fm) (X : Cx) (sts : List Stmt) (δ : DE) (R : Out) : Prop := ∀ (σ : L2.St) (H : Hp) (D : Ends), F.ok H → StD X.K F.S H σ δ → EndsOk F X.K H R D → semSs X sts D σ H
end Dl

set_option Elab.async false
set_option linter.all false
set_option maxRecDepth 100000
set_option maxHeartbeats 4000000
namespace Dl
open PySem PySem.Spec PyProof.Rows L2
/-! ### expressions -/
section
variable {F : Fm} {X : Cx} {δ : DE} {k k' : PyData → Prop}
theorem VE.mono {e : Expr} (h : VE F X e δ k) (w : ∀ d, k d → k' d) : VE F X e δ k' := fun σ H Q o s q => h σ H Q o s fun v H' d x o' n kd => q v H' d x o' n (w d kd)
theorem VE.to {e : Expr} {d : PyData} (h : VD F X e δ d) (w : k d) : VE F X e δ k := h.mono fun x e => by subst e; exact w
theorem VD.is {e : Expr} {d d' : PyData} (h : VD F X e δ d) (w : d = d') : VD F X e δ d' := by subst w; exact h
theorem VT.mono {e : Expr} {k k' : Bool → Prop} (h : VT F X e δ k) (w : ∀ d, k d → k' d) : VT F X e δ k' := fun σ H Q o s q => h σ H Q o s fun b H' x o' kd => q b H' x o' (w b kd)
theorem VT.to {e : Expr} {k : Bool → Prop} {b : Bool} (h : VB F X e δ b) (w : k b) : VT F X e δ k := h.mono fun x e => by subst e; exact w
theorem VB.is {e : Expr} {d d' : Bool} (h : VB F X e δ d) (w : d = d') : VB F X e δ d' := by subst w; exact h
theorem VA.mono {es : List Expr} {k k' : List PyData → Prop} (h : VA F X es δ k) (w : ∀ d, k d → k' d) : VA F X es δ k' := fun σ H Q o s q => h σ H Q o s fun v H' d x o' n kd => q v H' d x o' n (w d kd)
theorem VA.to {es : List Expr} {k : List PyData → Prop} {d : List PyData} (h : VL F X es δ d) (w : k d) : VA F X es δ k := h.mono fun x e => by subst e; exact w
theorem Fm.ok.all {F : Fm} {H : Hp} (o : F.ok H) {σ : L2.St} {δ : DE} {K : PySem.W.Frag} (s : StD K F.S H σ δ) {H' : Hp} (e : Xt F.C H H') : StD K F.S H' σ δ := s.mono F.sub e

theorem vd_var (i : Nat) {x : Str} {pos : Pos} {d : PyData} (hd : δ[i]? = some (some (.dat d)) := by rfl) (hN : X.N[i]? = some x := by rfl) (hv : Vis X.env.scope x := by first | exact Or.inl rfl | exact Or.inr (Or.inl rfl) | exact Or.inr (Or.inr rfl))
    (hdb : (x == ("__debug__" : Str)) = false := by decide) (hcd : (x == ("__classdict__" : Str)) = false := by decide) : VD F X (.Name x pos) δ d := fun σ H Q o s q =>
  (pe_var hN hv hdb hcd).sem (by
    obtain ⟨v, h1, h2⟩ := s.at_ i _ hd
    exact ⟨v, h1, q v H d (.refl H) o h2 rfl⟩)
theorem vd_c {e : Expr} {v : V} {d : PyData} (h : PE X e (tC v)) (hs : scV d = some v) : VD F X e δ d := fun σ H Q o s q => h.sem (show Q v H from q v H d (.refl H) o (dn_sc hs) rfl)
theorem vd_int {i : Int} {j pos} : VD F X (.Constant (.int i) j pos) δ (.int i) := vd_c pe_int rfl
theorem vd_bl {b : Bool} {j pos} : VD F X (.Constant (.bool b) j pos) δ (.bool b) := vd_c pe_bl rfl
theorem vd_non {j pos} : VD F X (.Constant .none j pos) δ .none := vd_c pe_non rfl
theorem vd_str {x : Str} {j pos} : VD F X (.Constant (.str x) j pos) δ (.str x) := vd_c pe_str rfl
/-- a module's name for a plain value -/
theorem vd_glob {x : Str} {pos : Pos} {v : V} {u : Value} {d : PyData} (hm : X.mg x = some u) (r : RelV v u) (hs : scV d = some v) (hg : Gl X x := by rfl) (hd : (x == ("__debug__" : Str)) = false := by decide) : VD F X (.Name x pos) δ d := vd_c (pe_glob hg hm r hd) hs

theorem vd_gint {x : Str} {pos : Pos} {i : Int} {t : Tok} (hm : X.mg x = some (.int i t)) (hg : Gl X x := by rfl) (hd : (x == ("__debug__" : Str)) = false := by decide) : VD F X (.Name x pos) δ (.int i) := vd_c (pe_glob (v := .int i) hg hm ⟨t, rfl⟩ hd) rfl
/-- r of x and y gives z -/
def OpD (K : PySem.W.Frag) (r : R2) (x y z : PyData) : Prop := ∀ (S : AS) (H : Hp) (vx vy : V) (Q : VK), (∀ a, S a → H a ≠ none) → Dn K S H vx x → Dn K S H vy y → (∀ v H', Xt C0 H H' → Dn K S H' v z → Q v H') → r vx vy H Q
theorem opd_I0 {K : PySem.W.Frag} {g : Int → Int → V} {i j : Int} {z : PyData} (hz : scV z = some (g i j)) : OpD K (rI0 g) (.int i) (.int j) z := fun S H vx vy Q _ hx hy q => ⟨i, j, hx.sc rfl, hy.sc rfl, q _ H (.refl H) (dn_sc hz)⟩
theorem opd_I {K : PySem.W.Frag} {C : Int → Int → Prop} {g : Int → Int → V} {i j : Int} {z : PyData} (hc : C i j) (hz : scV z = some (g i j)) : OpD K (rI C g) (.int i) (.int j) z := fun S H vx vy Q _ hx hy q => ⟨i, j, hx.sc rfl, hy.sc rfl, hc, q _ H (.refl H) (dn_sc hz)⟩
theorem ve_two {a b e : Expr} {r : R2} (he : PE X e (tOp r (semE X a) (semE X b))) (ha : VE F X a δ fun x => VE F X b δ fun y => ∃ z, OpD X.K r x y z ∧ k z) : VE F X e δ k := fun σ H Q o s q =>
  he.sem (ha σ H _ o s fun x H1 dx e1 o1 nx kx => kx σ H1 _ o1 (o.all s e1) fun y H2 dy e2 o2 ny ⟨z, hop, kz⟩ =>
    hop F.S H2 x y Q o2.2 (Dn.mono F.sub e2 _ _ nx) ny fun v H' e3 nz => q v H' z ((e1.trans e2).trans e3.of0) (o2.mono e3) nz kz)
theorem vd_two {a b e : Expr} {r : R2} {x y z : PyData} (he : PE X e (tOp r (semE X a) (semE X b))) (hop : OpD X.K r x y z) (ha : VD F X a δ x) (hb : VD F X b δ y) : VD F X e δ z :=
  ve_two he (ha.to (hb.to ⟨z, hop, rfl⟩))
theorem ve_op {a b : Expr} {op : Operator} {r : R2} {pos : Pos} (ho : OpR X (binaryOp op) r) (ha : VE F X a δ fun x => VE F X b δ fun y => ∃ z, OpD X.K r x y z ∧ k z) : VE F X (.BinOp a op b pos) δ k := ve_two (pe_op ho (pe_sem X a) (pe_sem X b)) ha
theorem vd_op {a b : Expr} {op : Operator} {r : R2} {pos : Pos} {x y z : PyData} (ho : OpR X (binaryOp op) r) (hop : OpD X.K r x y z) (ha : VD F X a δ x) (hb : VD F X b δ y) : VD F X (.BinOp a op b pos) δ z := vd_two (pe_op ho (pe_sem X a) (pe_sem X b)) hop ha hb
section
variable {a b : Expr} {pos : Pos} {i j : Int}
theorem vd_add (ha : VD F X a δ (.int i)) (hb : VD F X b δ (.int j)) : VD F X (.BinOp a .Add b pos) δ (.int (i + j)) := vd_op op_add (opd_I0 rfl) ha hb
theorem vd_sub (ha : VD F X a δ (.int i)) (hb : VD F X b δ (.int j)) : VD F X (.BinOp a .Sub b pos) δ (.int (i - j)) := vd_op op_sub (opd_I0 rfl) ha hb
theorem vd_mul (ha : VD F X a δ (.int i)) (hb : VD F X b δ (.int j)) (hc : CMulX i j) : VD F X (.BinOp a .Mult b pos) δ (.int (i * j)) := vd_op op_mulX (opd_I hc rfl) ha hb
theorem vd_fdiv (ha : VD F X a δ (.int i)) (hb : VD F X b δ (.int j)) (hc : CDivW i j) : VD F X (.BinOp a .FloorDiv b pos) δ (.int (i / j)) := vd_op op_fdivW (opd_I hc rfl) ha hb
theorem vd_mod (ha : VD F X a δ (.int i)) (hb : VD F X b δ (.int j)) (hc : 0 < j) : VD F X (.BinOp a .Mod b pos) δ (.int (i % j)) := vd_op op_mod (opd_I hc rfl) ha hb
theorem vd_shl (ha : VD F X a δ (.int i)) (hb : VD F X b δ (.int j)) (hc : CShl i j) : VD F X (.BinOp a .LShift b pos) δ (.int (i * 2 ^ j.toNat)) := vd_op op_shlW (opd_I hc rfl) ha hb
theorem vd_shr (ha : VD F X a δ (.int i)) (hb : VD F X b δ (.int j)) (hc : 0 ≤ j) : VD F X (.BinOp a .RShift b pos) δ (.int (i / 2 ^ j.toNat)) := vd_op op_shr (opd_I hc rfl) ha hb
theorem vd_band (ha : VD F X a δ (.int i)) (hb : VD F X b δ (.int j)) : VD F X (.BinOp a .BitAnd b pos) δ (.int (Builtin.bitAnd i j)) := vd_op op_and (opd_I0 rfl) ha hb
theorem vd_pow (ha : VD F X a δ (.int i)) (hb : VD F X b δ (.int j)) (hc : CPow i j) : VD F X (.BinOp a .Pow b pos) δ (.int (i ^ j.toNat)) := vd_op op_pow (opd_I hc rfl) ha hb
theorem vd_cat {x y : Str} (ha : VD F X a δ (.str x)) (hb : VD F X b δ (.str y)) (hc : x.length + y.length ≤ sizeLine) : VD F X (.BinOp a .Add b pos) δ (.str (x ++ y)) :=
  vd_op op_add_str (fun S H vx vy Q _ hx hy q => ⟨x, y, hx.sc rfl, hy.sc rfl, hc, q _ H (.refl H) (.str _)⟩) ha hb
theorem ve_add (ha : VE F X a δ fun x => VE F X b δ fun y => ∃ i j, x = .int i ∧ y = .int j ∧ k (.int (i + j))) : VE F X (.BinOp a .Add b pos) δ k :=
  ve_op op_add (ha.mono fun x hb => hb.mono fun y ⟨i, j, e1, e2, w⟩ => ⟨.int (i + j), by subst e1 e2; exact opd_I0 rfl, w⟩)
theorem ve_sub (ha : VE F X a δ fun x => VE F X b δ fun y => ∃ i j, x = .int i ∧ y = .int j ∧ k (.int (i - j))) : VE F X (.BinOp a .Sub b pos) δ k :=
  ve_op op_sub (ha.mono fun x hb => hb.mono fun y ⟨i, j, e1, e2, w⟩ => ⟨.int (i - j), by subst e1 e2; exact opd_I0 rfl, w⟩)
theorem ve_mul (ha : VE F X a δ fun x => VE F X b δ fun y => ∃ i j, x = .int i ∧ y = .int j ∧ CMulX i j ∧ k (.int (i * j))) : VE F X (.BinOp a .Mult b pos) δ k :=
  ve_op op_mulX (ha.mono fun x hb => hb.mono fun y ⟨i, j, e1, e2, hc, w⟩ => ⟨.int (i * j), by subst e1 e2; exact opd_I hc rfl, w⟩)
theorem vd_neg (ha : VD F X a δ (.int i)) : VD F X (.UnaryOp .USub a pos) δ (.int (-i)) := fun σ H Q o s q =>
  (pe_un un_neg (pe_sem X a)).sem (ha σ H _ o s fun x H1 dx e1 o1 nx kx => by subst kx; exact ⟨i, nx.sc rfl, q _ H1 _ e1 o1 (.int _) rfl⟩)
/-! comparisons -/
theorem ve_cmp {op : CmpOp} {r : R2} (ho : OpR X (compareOp op) r) (hm : behindInMarks op b = false) (ha : VE F X a δ fun x => VE F X b δ fun y => ∃ z, OpD X.K r x y z ∧ k z) : VE F X (.Compare a [op] [b] pos) δ k := ve_two (pe_cmpR ho (pe_sem X a) (pe_sem X b) hm) ha
theorem vd_cmp {op : CmpOp} {r : R2} {x y z : PyData} (ho : OpR X (compareOp op) r) (hm : behindInMarks op b = false) (hop : OpD X.K r x y z) (ha : VD F X a δ x) (hb : VD F X b δ y) : VD F X (.Compare a [op] [b] pos) δ z := vd_two (pe_cmpR ho (pe_sem X a) (pe_sem X b) hm) hop ha hb
theorem vt_cmp {op : CmpOp} {r : R2} {k : Bool → Prop} (ho : OpR X (compareOp op) r) (hm : behindInMarks op b = false) (ha : VE F X a δ fun x => VE F X b δ fun y => ∃ z, OpD X.K r x y (.bool z) ∧ k z) : VT F X (.Compare a [op] [b] pos) δ k := fun σ H Q o s q =>
  (pt_cmpR ho (pe_sem X a) (pe_sem X b) hm).sem (ha σ H _ o s fun x H1 dx e1 o1 nx kx => kx σ H1 _ o1 (o.all s e1) fun y H2 dy e2 o2 ny ⟨z, hop, kz⟩ =>
    hop F.S H2 x y _ o2.2 (Dn.mono F.sub e2 _ _ nx) ny fun v H' e3 nz => ⟨z, nz.sc rfl, q z H' ((e1.trans e2).trans e3.of0) (o2.mono e3) kz⟩)
theorem vb_cmp {op : CmpOp} {r : R2} {x y : PyData} {z : Bool} (ho : OpR X (compareOp op) r) (hm : behindInMarks op b = false) (hop : OpD X.K r x y (.bool z)) (ha : VD F X a δ x) (hb : VD F X b δ y) : VB F X (.Compare a [op] [b] pos) δ z := vt_cmp ho hm (ha.to (hb.to ⟨z, hop, rfl⟩))
theorem vd_lt (ha : VD F X a δ (.int i)) (hb : VD F X b δ (.int j)) : VD F X (.Compare a [.Lt] [b] pos) δ (.bool (decide (i < j))) := vd_cmp op_lt (nomark _) (opd_I0 rfl) ha hb
theorem vd_le (ha : VD F X a δ (.int i)) (hb : VD F X b δ (.int j)) : VD F X (.Compare a [.LtE] [b] pos) δ (.bool (decide (i ≤ j))) := vd_cmp op_le (nomark _) (opd_I0 rfl) ha hb
theorem vd_gt (ha : VD F X a δ (.int i)) (hb : VD F X b δ (.int j)) : VD F X (.Compare a [.Gt] [b] pos) δ (.bool (decide (j < i))) := vd_cmp op_gt (nomark _) (opd_I0 rfl) ha hb
theorem vd_ge (ha : VD F X a δ (.int i)) (hb : VD F X b δ (.int j)) : VD F X (.Compare a [.GtE] [b] pos) δ (.bool (decide (j ≤ i))) := vd_cmp op_ge (nomark _) (opd_I0 rfl) ha hb
theorem vb_lt (ha : VD F X a δ (.int i)) (hb : VD F X b δ (.int j)) : VB F X (.Compare a [.Lt] [b] pos) δ (decide (i < j)) := vb_cmp op_lt (nomark _) (opd_I0 rfl) ha hb
theorem vb_le (ha : VD F X a δ (.int i)) (hb : VD F X b δ (.int j)) : VB F X (.Compare a [.LtE] [b] pos) δ (decide (i ≤ j)) := vb_cmp op_le (nomark _) (opd_I0 rfl) ha hb
theorem vb_gt (ha : VD F X a δ (.int i)) (hb : VD F X b δ (.int j)) : VB F X (.Compare a [.Gt] [b] pos) δ (decide (j < i)) := vb_cmp op_gt (nomark _) (opd_I0 rfl) ha hb
theorem vb_ge (ha : VD F X a δ (.int i)) (hb : VD F X b δ (.int j)) : VB F X (.Compare a [.GtE] [b] pos) δ (decide (j ≤ i)) := vb_cmp op_ge (nomark _) (opd_I0 rfl) ha hb
/-- == of plain values; == of any data -/
def scEq (x y : PyData) : Bool := match scV x, scV y with
  | some a, some b => scal a b
  | _, _ => false
theorem opd_eq {K : PySem.W.Frag} {x y : PyData} {vx vy : V} (hx : scV x = some vx) (hy : scV y = some vy) (h : scal vx vy = true) : OpD K rEq x y (.bool (decide (vx = vy))) := fun S H ux uy Q _ nx ny q => by
  rw [nx.sc hx, ny.sc hy]
  exact ⟨h, q _ H (.refl H) (.bl _)⟩
theorem opd_ne {K : PySem.W.Frag} {x y : PyData} {vx vy : V} (hx : scV x = some vx) (hy : scV y = some vy) (h : scal vx vy = true) : OpD K rNe x y (.bool (!decide (vx = vy))) := fun S H ux uy Q _ nx ny q => by
  rw [nx.sc hx, ny.sc hy]
  exact ⟨h, q _ H (.refl H) (.bl _)⟩
theorem dec_int (i j : Int) : decide (V.int i = V.int j) = decide (i = j) := by
  by_cases h : i = j
  · rw [decide_eq_true h, h]; simp
  · rw [decide_eq_false h, decide_eq_false fun z => h (V.int.inj z)]
theorem dec_str (i j : Str) : decide (V.str i = V.str j) = decide (i = j) := by
  by_cases h : i = j
  · rw [decide_eq_true h, h]; simp
  · rw [decide_eq_false h, decide_eq_false fun z => h (V.str.inj z)]
theorem dec_bl (i j : Bool) : decide (V.bl i = V.bl j) = decide (i = j) := by
  by_cases h : i = j
  · rw [decide_eq_true h, h]; simp
  · rw [decide_eq_false h, decide_eq_false fun z => h (V.bl.inj z)]
theorem opd_eqI {K : PySem.W.Frag} : OpD K rEq (.int i) (.int j) (.bool (decide (i = j))) := by rw [← dec_int]; exact opd_eq rfl rfl rfl
theorem opd_neI {K : PySem.W.Frag} : OpD K rNe (.int i) (.int j) (.bool (!decide (i = j))) := by rw [← dec_int]; exact opd_ne rfl rfl rfl
theorem opd_eqS {K : PySem.W.Frag} {x y : Str} : OpD K rEq (.str x) (.str y) (.bool (decide (x = y))) := by rw [← dec_str]; exact opd_eq rfl rfl rfl
theorem opd_neS {K : PySem.W.Frag} {x y : Str} : OpD K rNe (.str x) (.str y) (.bool (!decide (x = y))) := by rw [← dec_str]; exact opd_ne rfl rfl rfl
theorem opd_eqB {K : PySem.W.Frag} {x y : Bool} : OpD K rEq (.bool x) (.bool y) (.bool (decide (x = y))) := by rw [← dec_bl]; exact opd_eq rfl rfl rfl
theorem opd_neB {K : PySem.W.Frag} {x y : Bool} : OpD K rNe (.bool x) (.bool y) (.bool (!decide (x = y))) := by rw [← dec_bl]; exact opd_ne rfl rfl rfl
theorem vd_eqI (ha : VD F X a δ (.int i)) (hb : VD F X b δ (.int j)) : VD F X (.Compare a [.Eq] [b] pos) δ (.bool (decide (i = j))) := vd_cmp op_eq (nomark _) opd_eqI ha hb
theorem vb_eqI (ha : VD F X a δ (.int i)) (hb : VD F X b δ (.int j)) : VB F X (.Compare a [.Eq] [b] pos) δ (decide (i = j)) := vb_cmp op_eq (nomark _) opd_eqI ha hb
theorem vd_neI (ha : VD F X a δ (.int i)) (hb : VD F X b δ (.int j)) : VD F X (.Compare a [.NotEq] [b] pos) δ (.bool (!decide (i = j))) := vd_cmp op_ne (nomark _) opd_neI ha hb
theorem vb_neI (ha : VD F X a δ (.int i)) (hb : VD F X b δ (.int j)) : VB F X (.Compare a [.NotEq] [b] pos) δ (!decide (i = j)) := vb_cmp op_ne (nomark _) opd_neI ha hb
theorem vd_eqS {x y : Str} (ha : VD F X a δ (.str x)) (hb : VD F X b δ (.str y)) : VD F X (.Compare a [.Eq] [b] pos) δ (.bool (decide (x = y))) := vd_cmp op_eq (nomark _) opd_eqS ha hb
theorem vb_eqS {x y : Str} (ha : VD F X a δ (.str x)) (hb : VD F X b δ (.str y)) : VB F X (.Compare a [.Eq] [b] pos) δ (decide (x = y)) := vb_cmp op_eq (nomark _) opd_eqS ha hb
theorem vd_neS {x y : Str} (ha : VD F X a δ (.str x)) (hb : VD F X b δ (.str y)) : VD F X (.Compare a [.NotEq] [b] pos) δ (.bool (!decide (x = y))) := vd_cmp op_ne (nomark _) opd_neS ha hb
theorem vb_neS {x y : Str} (ha : VD F X a δ (.str x)) (hb : VD F X b δ (.str y)) : VB F X (.Compare a [.NotEq] [b] pos) δ (!decide (x = y)) := vb_cmp op_ne (nomark _) opd_neS ha hb
theorem vd_eqB {x y : Bool} (ha : VD F X a δ (.bool x)) (hb : VD F X b δ (.bool y)) : VD F X (.Compare a [.Eq] [b] pos) δ (.bool (decide (x = y))) := vd_cmp op_eq (nomark _) opd_eqB ha hb
theorem vb_neB {x y : Bool} (ha : VD F X a δ (.bool x)) (hb : VD F X b δ (.bool y)) : VB F X (.Compare a [.NotEq] [b] pos) δ (!decide (x = y)) := vb_cmp op_ne (nomark _) opd_neB ha hb
/-- plain values of different kinds too -/
theorem vd_eqV {x y : PyData} {vx vy : V} (ha : VD F X a δ x) (hb : VD F X b δ y) (hx : scV x = some vx) (hy : scV y = some vy) (h : scal vx vy = true) : VD F X (.Compare a [.Eq] [b] pos) δ (.bool (decide (vx = vy))) := vd_cmp op_eq (nomark _) (opd_eq hx hy h) ha hb
theorem vb_eqV {x y : PyData} {vx vy : V} (ha : VD F X a δ x) (hb : VD F X b δ y) (hx : scV x = some vx) (hy : scV y = some vy) (h : scal vx vy = true) : VB F X (.Compare a [.Eq] [b] pos) δ (decide (vx = vy)) := vb_cmp op_eq (nomark _) (opd_eq hx hy h) ha hb
theorem vb_neV {x y : PyData} {vx vy : V} (ha : VD F X a δ x) (hb : VD F X b δ y) (hx : scV x = some vx) (hy : scV y = some vy) (h : scal vx vy = true) : VB F X (.Compare a [.NotEq] [b] pos) δ (!decide (vx = vy)) := vb_cmp op_ne (nomark _) (opd_ne hx hy h) ha hb
theorem opd_eqD {K : PySem.W.Frag} {x y : PyData} (hx : SeqAt.shaped x = true) (hy : SeqAt.shaped y = true) : OpD K (rEqD K) x y (.bool (PyData.eqv x y)) := fun S H ux uy Q _ nx ny q => ⟨x, y, nx.dp, ny.dp, hx, hy, q _ H (.refl H) (.bl _)⟩
theorem opd_neD {K : PySem.W.Frag} {x y : PyData} (hx : SeqAt.shaped x = true) (hy : SeqAt.shaped y = true) : OpD K (rNeD K) x y (.bool (!PyData.eqv x y)) := fun S H ux uy Q _ nx ny q => ⟨x, y, nx.dp, ny.dp, hx, hy, q _ H (.refl H) (.bl _)⟩
theorem vd_eqD {x y : PyData} (hu : X.A.units + 64 < cLine) (ha : VD F X a δ x) (hb : VD F X b δ y) (hx : SeqAt.shaped x = true) (hy : SeqAt.shaped y = true) : VD F X (.Compare a [.Eq] [b] pos) δ (.bool (PyData.eqv x y)) := vd_cmp (op_eqD hu) (nomark _) (opd_eqD hx hy) ha hb
theorem vb_eqD {x y : PyData} (hu : X.A.units + 64 < cLine) (ha : VD F X a δ x) (hb : VD F X b δ y) (hx : SeqAt.shaped x = true) (hy : SeqAt.shaped y = true) : VB F X (.Compare a [.Eq] [b] pos) δ (PyData.eqv x y) := vb_cmp (op_eqD hu) (nomark _) (opd_eqD hx hy) ha hb
theorem vb_neD {x y : PyData} (hu : X.A.units + 64 < cLine) (ha : VD F X a δ x) (hb : VD F X b δ y) (hx : SeqAt.shaped x = true) (hy : SeqAt.shaped y = true) : VB F X (.Compare a [.NotEq] [b] pos) δ (!PyData.eqv x y) := vb_cmp (op_neD hu) (nomark _) (opd_neD hx hy) ha hb
/-- is None -/
def isNon : PyData → Bool
  | .none => true
  | _ => false
theorem opd_isN {K : PySem.W.Frag} {x : PyData} : OpD K (fun x y H Q => y = .non ∧ Q (.bl (decide (x = .non))) H) x .none (.bool (isNon x)) := fun S H ux uy Q _ nx ny q => ⟨ny.sc rfl, by
  have e : decide (ux = V.non) = isNon x := by cases nx <;> rfl
  rw [e]; exact q _ H (.refl H) (.bl _)⟩
theorem opd_notN {K : PySem.W.Frag} {x : PyData} : OpD K (fun x y H Q => y = .non ∧ Q (.bl (!decide (x = .non))) H) x .none (.bool (!isNon x)) := fun S H ux uy Q _ nx ny q => ⟨ny.sc rfl, by
  have e : decide (ux = V.non) = isNon x := by cases nx <;> rfl
  rw [e]; exact q _ H (.refl H) (.bl _)⟩
theorem vd_isN {x : PyData} (ha : VD F X a δ x) (hb : VD F X b δ .none) : VD F X (.Compare a [.Is] [b] pos) δ (.bool (isNon x)) := vd_cmp op_isN (nomark _) opd_isN ha hb
theorem vb_isN {x : PyData} (ha : VD F X a δ x) (hb : VD F X b δ .none) : VB F X (.Compare a [.Is] [b] pos) δ (isNon x) := vb_cmp op_isN (nomark _) opd_isN ha hb
theorem vd_notN {x : PyData} (ha : VD F X a δ x) (hb : VD F X b δ .none) : VD F X (.Compare a [.IsNot] [b] pos) δ (.bool (!isNon x)) := vd_cmp op_notN (nomark _) opd_notN ha hb
theorem vb_notN {x : PyData} (ha : VD F X a δ x) (hb : VD F X b δ .none) : VB F X (.Compare a [.IsNot] [b] pos) δ (!isNon x) := vb_cmp op_notN (nomark _) opd_notN ha hb
/-- a plain value in a list or tuple of plain values -/
def scD : PyData → Bool
  | .none => true
  | .bool _ => true
  | .int _ => true
  | .str _ => true
  | _ => false
def eqF : PyData → PyData → Bool
  | .none, .none => true
  | .bool a, .bool b => a == b
  | .bool a, .int b => (if a then 1 else 0) == b
  | .int a, .bool b => a == (if b then 1 else 0)
  | .int a, .int b => a == b
  | .str a, .str b => a == b
  | _, _ => false
def inF (x : PyData) (ys : List PyData) : Bool := ys.any fun y => eqF y x
theorem Dn.flat {K : PySem.W.Frag} {S : AS} {H : Hp} {v : V} {d : PyData} (h : Dn K S H v d) (e : scD d = true) : flatV v = true := by
  cases h <;> first | rfl | simp [scD] at e
theorem eqF_V {K : PySem.W.Frag} {S : AS} {H : Hp} {v u : V} {d e : PyData} (h : Dn K S H v d) (g : Dn K S H u e) (hd : scD d = true) (he : scD e = true) : eqV v u = eqF d e := by
  cases h <;> first | (simp [scD] at hd; done) | (cases g <;> first | rfl | (simp [scD] at he; done))
theorem DnAll.flat {K : PySem.W.Frag} {S : AS} {H : Hp} : ∀ {vs : List V} {ds : List PyData}, DnAll K S H vs ds → ds.all scD = true → vs.all flatV = true
  | _, _, .nil, _ => rfl
  | _, _, .cons h t, e => by
    simp only [List.all_cons, Bool.and_eq_true] at e ⊢
    exact ⟨h.flat e.1, t.flat e.2⟩
theorem inF_V {K : PySem.W.Frag} {S : AS} {H : Hp} {u : V} {e : PyData} (g : Dn K S H u e) (he : scD e = true) : ∀ {vs : List V} {ds : List PyData}, DnAll K S H vs ds → ds.all scD = true → inV u vs = inF e ds
  | _, _, .nil, _ => rfl
  | _, _, .cons h t, q => by
    simp only [List.all_cons, Bool.and_eq_true] at q
    have ih := inF_V g he t q.2
    unfold inV inF at ih ⊢
    rw [List.any_cons, List.any_cons, ih, eqF_V h g q.1 he]
def seqOf : PyData → Option (List PyData)
  | .list ds => some ds
  | .tuple ds => some ds
  | _ => none
theorem Dn.seq {K : PySem.W.Frag} {S : AS} {H : Hp} {v : V} {d : PyData} {ds : List PyData} (h : Dn K S H v d) (e : seqOf d = some ds) : ∃ p xs, v = .ref p ∧ (SqL K H p xs ∨ SqT K H p xs) ∧ DnAll K S H xs ds := by
  cases h with
  | lst s a => simp [seqOf] at e; subst e; exact ⟨_, _, rfl, .inl s.sq, a⟩
  | tup s a => simp [seqOf] at e; subst e; exact ⟨_, _, rfl, .inr s.sq, a⟩
  | _ => simp [seqOf] at e
theorem opd_in {K : PySem.W.Frag} {x y : PyData} {ds : List PyData} (hx : scD x = true) (hy : seqOf y = some ds) (hd : ds.all scD = true) : OpD K (rIn K false) x y (.bool (inF x ds)) := fun S H ux uy Q _ nx ny q => by
  obtain ⟨p, xs, rfl, hs, ha⟩ := ny.seq hy
  refine ⟨p, xs, rfl, hs, nx.flat hx, ha.flat hd, ?_⟩
  rw [inF_V nx hx ha hd]
  exact q _ H (.refl H) (.bl _)
theorem opd_notin {K : PySem.W.Frag} {x y : PyData} {ds : List PyData} (hx : scD x = true) (hy : seqOf y = some ds) (hd : ds.all scD = true) : OpD K (rIn K true) x y (.bool (!inF x ds)) := fun S H ux uy Q _ nx ny q => by
  obtain ⟨p, xs, rfl, hs, ha⟩ := ny.seq hy
  refine ⟨p, xs, rfl, hs, nx.flat hx, ha.flat hd, ?_⟩
  rw [inF_V nx hx ha hd]
  exact q _ H (.refl H) (.bl _)
theorem vd_in {x y : PyData} {ds : List PyData} (ha : VD F X a δ x) (hb : VD F X b δ y) (hm : behindInMarks .In b = false) (hx : scD x = true) (hy : seqOf y = some ds) (hd : ds.all scD = true) : VD F X (.Compare a [.In] [b] pos) δ (.bool (inF x ds)) := vd_cmp op_in_seq hm (opd_in hx hy hd) ha hb
theorem vb_in {x y : PyData} {ds : List PyData} (ha : VD F X a δ x) (hb : VD F X b δ y) (hm : behindInMarks .In b = false) (hx : scD x = true) (hy : seqOf y = some ds) (hd : ds.all scD = true) : VB F X (.Compare a [.In] [b] pos) δ (inF x ds) := vb_cmp op_in_seq hm (opd_in hx hy hd) ha hb
theorem vb_notin {x y : PyData} {ds : List PyData} (ha : VD F X a δ x) (hb : VD F X b δ y) (hm : behindInMarks .NotIn b = false) (hx : scD x = true) (hy : seqOf y = some ds) (hd : ds.all scD = true) : VB F X (.Compare a [.NotIn] [b] pos) δ (!inF x ds) := vb_cmp op_notIn_seq hm (opd_notin hx hy hd) ha hb
end
/-! ### chains -/
section
variable {a b c : Expr} {pos : Pos} {i j m : Int} {op op' : CmpOp} {r r' : R2}
theorem vd_chain {x y w : PyData} {z z' : Bool} (ho : OpR X (compareOp op) r) (ho' : OpR X (compareOp op') r') (h1 : OpD X.K r x y (.bool z)) (h2 : OpD X.K r' y w (.bool z')) (ha : VD F X a δ x) (hb : VD F X b δ y) (hc : VD F X c δ w)
    (hm : lastMarks [op, op'] [b, c] = false := by with_unfolding_all rfl) : VD F X (.Compare a [op, op'] [b, c] pos) δ (.bool (z && z')) := fun σ H Q o s q =>
  (pe_chain ho ho' (pe_sem X a) (pe_sem X b) (pe_sem X c) hm).sem (ha σ H _ o s fun vx H1 dx e1 o1 nx kx => hb σ H1 _ o1 (o.all s e1) fun vy H2 dy e2 o2 ny ky => by
    subst kx ky
    refine h1 F.S H2 vx vy _ o2.2 (Dn.mono F.sub e2 _ _ nx) ny fun v H3 e3 nz => ?_
    have o3 := o2.mono e3
    have e13 := (e1.trans e2).trans (e3.of0 (C := F.C))
    refine ⟨z, nz.sc rfl, ?_⟩
    cases z with
    | false => exact q _ H3 _ e13 o3 (.bl _) rfl
    | true =>
      refine hc σ H3 _ o3 (o.all s e13) fun vw H4 dw e4 o4 nw kw => ?_
      subst kw
      refine h2 F.S H4 vy vw _ o4.2 (Dn.mono F.sub (e3.of0.trans e4) _ _ ny) nw fun v5 H5 e5 n5 => q v5 H5 _ ((e13.trans e4).trans e5.of0) (o4.mono e5) n5 rfl)
theorem vb_chain {x y w : PyData} {z z' : Bool} (ho : OpR X (compareOp op) r) (ho' : OpR X (compareOp op') r') (h1 : OpD X.K r x y (.bool z)) (h2 : OpD X.K r' y w (.bool z')) (ha : VD F X a δ x) (hb : VD F X b δ y) (hc : VD F X c δ w)
    (hm : lastMarks [op, op'] [b, c] = false := by with_unfolding_all rfl) : VB F X (.Compare a [op, op'] [b, c] pos) δ (z && z') := fun σ H Q o s q =>
  (pt_chain ho ho' (pe_sem X a) (pe_sem X b) (pe_sem X c) hm).sem (ha σ H _ o s fun vx H1 dx e1 o1 nx kx => hb σ H1 _ o1 (o.all s e1) fun vy H2 dy e2 o2 ny ky => by
    subst kx ky
    refine h1 F.S H2 vx vy _ o2.2 (Dn.mono F.sub e2 _ _ nx) ny fun v H3 e3 nz => ?_
    have o3 := o2.mono e3
    have e13 := (e1.trans e2).trans (e3.of0 (C := F.C))
    refine ⟨z, nz.sc rfl, ?_⟩
    cases z with
    | false => exact ⟨_, rfl, q _ H3 e13 o3 rfl⟩
    | true =>
      refine hc σ H3 _ o3 (o.all s e13) fun vw H4 dw e4 o4 nw kw => ?_
      subst kw
      refine h2 F.S H4 vy vw _ o4.2 (Dn.mono F.sub (e3.of0.trans e4) _ _ ny) nw fun v5 H5 e5 n5 => ⟨_, n5.sc rfl, q _ H5 ((e13.trans e4).trans e5.of0) (o4.mono e5) rfl⟩)
/-- a <= b <= c of ints -/
theorem vd_lele (ha : VD F X a δ (.int i)) (hb : VD F X b δ (.int j)) (hc : VD F X c δ (.int m)) (hm : lastMarks [.LtE, .LtE] [b, c] = false := by with_unfolding_all rfl) : VD F X (.Compare a [.LtE, .LtE] [b, c] pos) δ (.bool (decide (i ≤ j) && decide (j ≤ m))) := vd_chain op_le op_le (opd_I0 rfl) (opd_I0 rfl) ha hb hc hm
theorem vb_lele (ha : VD F X a δ (.int i)) (hb : VD F X b δ (.int j)) (hc : VD F X c δ (.int m)) (hm : lastMarks [.LtE, .LtE] [b, c] = false := by with_unfolding_all rfl) : VB F X (.Compare a [.LtE, .LtE] [b, c] pos) δ (decide (i ≤ j) && decide (j ≤ m)) := vb_chain op_le op_le (opd_I0 rfl) (opd_I0 rfl) ha hb hc hm
end
/-! ### and, or, not, if -/
section
variable {a b c : Expr} {rest : List Expr} {pos : Pos} {x y : Bool}
theorem vd_one {op} {d : PyData} (h : VD F X a δ d) : VD F X (.BoolOp op [a] pos) δ d := fun σ H Q o s q => (pe_one (pe_sem X a)).sem (h σ H Q o s q)
theorem vd_and (ha : VD F X a δ (.bool x)) (hb : x = true → VD F X (.BoolOp .And (b :: rest) pos) δ (.bool y)) : VD F X (.BoolOp .And (a :: b :: rest) pos) δ (.bool (x && y)) := fun σ H Q o s q =>
  (pe_and (pe_sem X a) (pe_sem X _)).sem (ha σ H _ o s fun vx H1 dx e1 o1 nx kx => by
    subst kx
    refine ⟨x, nx.sc rfl, ?_⟩
    cases x with
    | false => exact q _ H1 _ e1 o1 (.bl _) rfl
    | true => exact hb rfl σ H1 Q o1 (o.all s e1) fun v H2 d e2 o2 n kd => q v H2 d (e1.trans e2) o2 n (by rw [kd]; rfl))
theorem vd_or (ha : VD F X a δ (.bool x)) (hb : x = false → VD F X (.BoolOp .Or (b :: rest) pos) δ (.bool y)) : VD F X (.BoolOp .Or (a :: b :: rest) pos) δ (.bool (x || y)) := fun σ H Q o s q =>
  (pe_or (pe_sem X a) (pe_sem X _)).sem (ha σ H _ o s fun vx H1 dx e1 o1 nx kx => by
    subst kx
    refine ⟨x, nx.sc rfl, ?_⟩
    cases x with
    | true => exact q _ H1 _ e1 o1 (.bl _) rfl
    | false => exact hb rfl σ H1 Q o1 (o.all s e1) fun v H2 d e2 o2 n kd => q v H2 d (e1.trans e2) o2 n (by rw [kd]; rfl))
theorem vd_not (ha : VD F X a δ (.bool x)) : VD F X (.UnaryOp .Not a pos) δ (.bool (!x)) := fun σ H Q o s q =>
  (pe_not (pe_sem X a)).sem (ha σ H _ o s fun vx H1 dx e1 o1 nx kx => by
    subst kx
    exact ⟨x, nx.sc rfl, q _ H1 _ e1 o1 (.bl _) rfl⟩)
/-- a test whose value is True or False -/
theorem vb_val (h : VD F X a δ (.bool x)) (he : ∀ whole, isTrue a X.env whole = (do let v ← whole; standAt a.pos; holding [v] (truthy v)) := by intro _; rfl) : VB F X a δ x := fun σ H Q o s q =>
  (pt_val (pe_sem X a) he).sem (h σ H _ o s fun vx H1 dx e1 o1 nx kx => by
    subst kx
    exact ⟨x, nx.sc rfl, q _ H1 e1 o1 rfl⟩)
theorem vt_val {k : Bool → Prop} (h : VE F X a δ fun d => ∃ x, d = .bool x ∧ k x) (he : ∀ whole, isTrue a X.env whole = (do let v ← whole; standAt a.pos; holding [v] (truthy v)) := by intro _; rfl) : VT F X a δ k := fun σ H Q o s q =>
  (pt_val (pe_sem X a) he).sem (h σ H _ o s fun vx H1 dx e1 o1 nx ⟨x, e, kx⟩ => by
    subst e
    exact ⟨x, nx.sc rfl, q _ H1 e1 o1 kx⟩)
/-- tests of and, or: VW, whatever the whole is -/
def VW (F : Fm) (X : Cx) (e : Expr) (δ : DE) (k : Bool → Prop) : Prop := ∀ (σ : L2.St) (H : Hp) (Q : Bool → Hp → Prop), F.ok H → StD X.K F.S H σ δ →
  (∀ (b : Bool) (H' : Hp), Xt F.C H H' → F.ok H' → k b → Q b H') → ∀ (whole : Sem Value) (pins : List (Addr × Obj)) (s : Shared), Inv X pins σ H s → wpAny (model X.prog X.w) X.A (isTrue e X.env whole) (TP X pins σ Q) X.xe s
theorem VW.vt {e : Expr} {k : Bool → Prop} (h : VW F X e δ k) : VT F X e δ k := fun σ H Q o s q pins sh I => h σ H Q o s q _ pins sh I
theorem _root_.L2.PW.semW {e : Expr} {t : TT} (h : PW X e t) {σ : L2.St} {H : Hp} {Q : Bool → Hp → Prop} (q : t σ H Q) : ∀ (whole : Sem Value) (pins : List (Addr × Obj)) (s : Shared), Inv X pins σ H s → wpAny (model X.prog X.w) X.A (isTrue e X.env whole) (TP X pins σ Q) X.xe s := fun whole pins s I => h.run whole pins s σ H Q I q
def semW (X : Cx) (e : Expr) : TT := fun σ H Q => ∀ (whole : Sem Value) (pins : List (Addr × Obj)) (s : Shared), Inv X pins σ H s → wpAny (model X.prog X.w) X.A (isTrue e X.env whole) (TP X pins σ Q) X.xe s
theorem pw_sem (X : Cx) (e : Expr) : PW X e (semW X e) := ⟨fun whole pins s σ H Q I h => h whole pins s I⟩
theorem vw_and1 {k : Bool → Prop} (ha : VT F X a δ k) : VW F X (.BoolOp .And [a] pos) δ k := fun σ H Q o s q => PW.semW (pw_and1 (pt_sem X a)) (ha σ H Q o s q)
theorem vw_or1 {k : Bool → Prop} (ha : VT F X a δ k) : VW F X (.BoolOp .Or [a] pos) δ k := fun σ H Q o s q => PW.semW (pw_or1 (pt_sem X a)) (ha σ H Q o s q)
theorem vw_and {k : Bool → Prop} (ha : VT F X a δ fun x => if x = true then VW F X (.BoolOp .And (b :: rest) pos) δ k else k false) : VW F X (.BoolOp .And (a :: b :: rest) pos) δ k := fun σ H Q o s q =>
  PW.semW (pw_and (pt_sem X a) (pw_sem X _)) (ha σ H _ o s fun x H1 e1 o1 kx => by
    cases x with
    | false => exact q _ H1 e1 o1 (by simpa using kx)
    | true =>
      have kx' : VW F X (.BoolOp .And (b :: rest) pos) δ k := by simpa using kx
      exact kx' σ H1 Q o1 (o.all s e1) fun y H2 e2 o2 ky => q y H2 (e1.trans e2) o2 ky)
theorem vw_or {k : Bool → Prop} (ha : VT F X a δ fun x => if x = true then k true else VW F X (.BoolOp .Or (b :: rest) pos) δ k) : VW F X (.BoolOp .Or (a :: b :: rest) pos) δ k := fun σ H Q o s q =>
  PW.semW (pw_or (pt_sem X a) (pw_sem X _)) (ha σ H _ o s fun x H1 e1 o1 kx => by
    cases x with
    | true => exact q _ H1 e1 o1 (by simpa using kx)
    | false =>
      have kx' : VW F X (.BoolOp .Or (b :: rest) pos) δ k := by simpa using kx
      exact kx' σ H1 Q o1 (o.all s e1) fun y H2 e2 o2 ky => q y H2 (e1.trans e2) o2 ky)
abbrev VWB (F : Fm) (X : Cx) (e : Expr) (δ : DE) (b : Bool) : Prop := VW F X e δ fun x => x = b
theorem VW.mono {e : Expr} {k k' : Bool → Prop} (h : VW F X e δ k) (w : ∀ d, k d → k' d) : VW F X e δ k' := fun σ H Q o s q => h σ H Q o s fun b H' x o' kd => q b H' x o' (w b kd)
theorem vwb_and1 (ha : VB F X a δ x) : VWB F X (.BoolOp .And [a] pos) δ x := vw_and1 ha
theorem vwb_or1 (ha : VB F X a δ x) : VWB F X (.BoolOp .Or [a] pos) δ x := vw_or1 ha
theorem vwb_and (ha : VB F X a δ x) (hb : x = true → VWB F X (.BoolOp .And (b :: rest) pos) δ y) : VWB F X (.BoolOp .And (a :: b :: rest) pos) δ (x && y) := vw_and (ha.to (by
  cases x with
  | true => simpa using hb rfl
  | false => simp))
theorem vwb_or (ha : VB F X a δ x) (hb : x = false → VWB F X (.BoolOp .Or (b :: rest) pos) δ y) : VWB F X (.BoolOp .Or (a :: b :: rest) pos) δ (x || y) := vw_or (ha.to (by
  cases x with
  | false => simpa using hb rfl
  | true => simp))
theorem vb_not (ha : VB F X a δ x) : VB F X (.UnaryOp .Not a pos) δ (!x) := fun σ H Q o s q => (pt_not (pt_sem X a)).sem (ha σ H _ o s fun b H1 e1 o1 kb => q _ H1 e1 o1 (by rw [kb]))
theorem vt_not {k : Bool → Prop} (ha : VT F X a δ fun x => k (!x)) : VT F X (.UnaryOp .Not a pos) δ k := fun σ H Q o s q => (pt_not (pt_sem X a)).sem (ha σ H _ o s fun b H1 e1 o1 kb => q _ H1 e1 o1 kb)
theorem ve_if (hc : VT F X c δ fun x => if x = true then VE F X a δ k else VE F X b δ k) : VE F X (.IfExp c a b pos) δ k := fun σ H Q o s q =>
  (pe_ifExp (pt_sem X c) (pe_sem X a) (pe_sem X b)).sem (hc σ H _ o s fun x H1 e1 o1 kx => by
    cases x with
    | true =>
      have kx' : VE F X a δ k := by simpa using kx
      exact kx' σ H1 Q o1 (o.all s e1) fun v H2 d e2 o2 n kd => q v H2 d (e1.trans e2) o2 n kd
    | false =>
      have kx' : VE F X b δ k := by simpa using kx
      exact kx' σ H1 Q o1 (o.all s e1) fun v H2 d e2 o2 n kd => q v H2 d (e1.trans e2) o2 n kd)
theorem vd_if {d : PyData} (hc : VB F X c δ x) (ha : x = true → VD F X a δ d) (hb : x = false → VD F X b δ d) : VD F X (.IfExp c a b pos) δ d := ve_if (hc.to (by
  cases x with
  | true => simpa using ha rfl
  | false => simpa using hb rfl))
theorem vd_ite {d d' : PyData} (hc : VB F X c δ x) (ha : x = true → VD F X a δ d) (hb : x = false → VD F X b δ d') : VD F X (.IfExp c a b pos) δ (if x = true then d else d') := ve_if (hc.to (by
  cases x with
  | true => simpa using ha rfl
  | false => simpa using hb rfl))
end
/-! ### arguments, displays, items, slices -/
section
variable {e : Expr} {es : List Expr} {pos : Pos} {d : PyData} {ds : List PyData}
theorem va_nil {k : List PyData → Prop} (h : k []) : VA F X [] δ k := fun σ H Q o s q => pa_nil.sem (show Q [] H from q _ H _ (.refl H) o .nil h)
theorem vl_nil : VL F X [] δ [] := va_nil rfl
theorem va_cons {k : List PyData → Prop} (he : VE F X e δ fun d => VA F X es δ fun ds => k (d :: ds)) (hs : starEach (e :: es) X.env = (false, eval e X.env) :: starEach es X.env := by rfl) : VA F X (e :: es) δ k := fun σ H Q o s q =>
  (pa_cons (pe_sem X e) (pa_sem X es) hs).sem (he σ H _ o s fun v H1 d e1 o1 n1 kd => kd σ H1 _ o1 (o.all s e1) fun vs H2 ds e2 o2 n2 kds => q _ H2 _ (e1.trans e2) o2 (.cons (Dn.mono F.sub e2 _ _ n1) n2) kds)
theorem vl_cons (he : VD F X e δ d) (hr : VL F X es δ ds) (hs : starEach (e :: es) X.env = (false, eval e X.env) :: starEach es X.env := by rfl) : VL F X (e :: es) δ (d :: ds) := va_cons (he.to (hr.to rfl)) hs
theorem ve_tup {x1} (h : VA F X es δ fun ds => ds.length ≤ sizeLine ∧ k (.tuple ds)) : VE F X (.Tuple es x1 pos) δ k := fun σ H Q o s q =>
  (pe_tup (pa_sem X es)).sem (h σ H _ o s fun vs H1 ds e1 o1 n1 ⟨hl, kd⟩ => ⟨by rw [n1.length]; exact hl, fun p hp =>
    q _ _ _ (e1.trans (.new hp)) (o1.mono (.new hp)) (.tup (.inl ⟨o1.fresh hp, .of upd_same⟩) (Dn.monoAll F.sub (.new hp) _ _ n1)) kd⟩)
theorem ve_lst (h : VA F X es δ fun ds => ds.length ≤ sizeLine ∧ k (.list ds)) : VE F X (.List es pos) δ k := fun σ H Q o s q =>
  (pe_lst (pa_sem X es)).sem (h σ H _ o s fun vs H1 ds e1 o1 n1 ⟨hl, kd⟩ => ⟨by rw [n1.length]; exact hl, fun p hp =>
    q _ _ _ (e1.trans (.new hp)) (o1.mono (.new hp)) (.lst (.inl ⟨o1.fresh hp, .of upd_same⟩) (Dn.monoAll F.sub (.new hp) _ _ n1)) kd⟩)
theorem sz_le {n : Nat} (h : n ≤ 100000) : n ≤ sizeLine := Nat.le_trans h (by decide)
theorem vd_tup {x1} (h : VL F X es δ ds) (hl : ds.length ≤ 100000 := by first | decide | simp) : VD F X (.Tuple es x1 pos) δ (.tuple ds) := ve_tup (h.to ⟨sz_le hl, rfl⟩)
theorem vd_lst (h : VL F X es δ ds) (hl : ds.length ≤ 100000 := by first | decide | simp) : VD F X (.List es pos) δ (.list ds) := ve_lst (h.to ⟨sz_le hl, rfl⟩)
/-- xs[i] of a list or a tuple -/
theorem DnAll.atI {K : PySem.W.Frag} {S : AS} {H : Hp} {vs : List V} {ds : List PyData} (h : DnAll K S H vs ds) {i : Int} {d : PyData} (e : atI ds i = some d) : ∃ v, atI vs i = some v ∧ Dn K S H v d := by
  unfold L2.atI at e ⊢
  rw [h.length]
  cases q : ixN ds.length i with
  | none => rw [q] at e; cases e
  | some j =>
    rw [q] at e
    exact h.get (show ds[j]? = some d from e)
variable {a b : Expr} {i : Int}
theorem ve_ixL (ha : VE F X a δ fun x => VE F X b δ fun y => ∃ ds i d, x = .list ds ∧ y = .int i ∧ atI ds i = some d ∧ k d) (hs : PlainIx b := by intro _ _; rfl) : VE F X (.Subscript a b pos) δ k :=
  ve_two (pe_ix ix_list (pe_sem X a) (pe_sem X b) hs) (ha.mono fun x hb => hb.mono fun y ⟨ds, i, d, e1, e2, e3, w⟩ => ⟨d, fun S H vx vy Q _ hx hy q => by
    subst e1 e2
    cases hx with
    | lst sq al =>
      obtain ⟨v, h1, h2⟩ := al.atI e3
      exact ⟨_, _, i, v, rfl, hy.sc rfl, sq.sq, h1, q v H (.refl H) h2⟩, w⟩)
theorem ve_ixT (ha : VE F X a δ fun x => VE F X b δ fun y => ∃ ds i d, x = .tuple ds ∧ y = .int i ∧ atI ds i = some d ∧ k d) (hs : PlainIx b := by intro _ _; rfl) : VE F X (.Subscript a b pos) δ k :=
  ve_two (pe_ix ix_tup (pe_sem X a) (pe_sem X b) hs) (ha.mono fun x hb => hb.mono fun y ⟨ds, i, d, e1, e2, e3, w⟩ => ⟨d, fun S H vx vy Q _ hx hy q => by
    subst e1 e2
    cases hx with
    | tup sq al =>
      obtain ⟨v, h1, h2⟩ := al.atI e3
      exact ⟨_, _, i, v, rfl, hy.sc rfl, sq.sq, h1, q v H (.refl H) h2⟩, w⟩)
theorem vd_ixL (ha : VD F X a δ (.list ds)) (hb : VD F X b δ (.int i)) (h : atI ds i = some d) (hs : PlainIx b := by intro _ _; rfl) : VD F X (.Subscript a b pos) δ d := ve_ixL (ha.to (hb.to ⟨ds, i, d, rfl, rfl, h, rfl⟩)) hs
theorem vd_ixT (ha : VD F X a δ (.tuple ds)) (hb : VD F X b δ (.int i)) (h : atI ds i = some d) (hs : PlainIx b := by intro _ _; rfl) : VD F X (.Subscript a b pos) δ d := ve_ixT (ha.to (hb.to ⟨ds, i, d, rfl, rfl, h, rfl⟩)) hs
/-- x in T, T a module's tuple of plain values -/
theorem flat_dn {K : PySem.W.Frag} {S : AS} {H : Hp} : ∀ {vs : List V} {ds : List PyData}, (∃ ws, ds.map scV = ws.map some ∧ ws = vs) → DnAll K S H vs ds
  | _, [], ⟨ws, h, e⟩ => by
    subst e
    cases ws with
    | nil => exact .nil
    | cons a b => simp at h
  | _, d :: ds, ⟨ws, h, e⟩ => by
    subst e
    cases ws with
    | nil => simp at h
    | cons a b =>
      simp only [List.map_cons, List.cons.injEq] at h
      exact .cons (dn_sc h.1) (flat_dn ⟨b, h.2, rfl⟩)
theorem vd_inK {x : Str} {a : Expr} {pos px : Pos} {t : Addr} {vs : List V} {d : PyData} {ds : List PyData} (ha : VD F X a δ d) (hm : X.mg x = some (.ref t)) (hq : SqT X.K (fun _ => none) t vs) (hd : scD d = true) (hv : ds.map scV = vs.map some) (hf : ds.all scD = true := by rfl) (hg : Gl X x := by rfl) (hdb : (x == ("__debug__" : Str)) = false := by decide) :
    VD F X (.Compare a [.In] [.Name x px] pos) δ (.bool (inF d ds)) := fun σ H Q o s q =>
  (pe_cmpR op_in_seq (pe_sem X a) (pe_glob (v := .ref t) hg hm rfl hdb) rfl).sem (ha σ H _ o s fun v H1 d' e1 o1 n1 kd => by
    subst kd
    have al : DnAll X.K F.S H1 vs ds := flat_dn ⟨vs, hv, rfl⟩
    refine ⟨t, vs, rfl, .inr (sqt_w hq), n1.flat hd, al.flat hf, ?_⟩
    rw [inF_V n1 hd al hf]
    exact q _ H1 _ e1 o1 (.bl _) rfl)
theorem vb_inK {x : Str} {a : Expr} {pos px : Pos} {t : Addr} {vs : List V} {d : PyData} {ds : List PyData} (neg : Bool) (ha : VD F X a δ d) (hm : X.mg x = some (.ref t)) (hq : SqT X.K (fun _ => none) t vs) (hd : scD d = true) (hv : ds.map scV = vs.map some) (hf : ds.all scD = true := by rfl) (hg : Gl X x := by rfl) (hdb : (x == ("__debug__" : Str)) = false := by decide) :
    VB F X (.Compare a [if neg then .NotIn else .In] [.Name x px] pos) δ (if neg then !inF d ds else inF d ds) := fun σ H Q o s q => by
  cases neg with
  | false =>
    refine (pt_cmpR op_in_seq (pe_sem X a) (pe_glob (v := .ref t) hg hm rfl hdb) rfl).sem (ha σ H _ o s fun v H1 d' e1 o1 n1 kd => ?_)
    subst kd
    have al : DnAll X.K F.S H1 vs ds := flat_dn ⟨vs, hv, rfl⟩
    refine ⟨t, vs, rfl, .inr (sqt_w hq), n1.flat hd, al.flat hf, ?_⟩
    rw [inF_V n1 hd al hf]
    exact ⟨_, rfl, q _ H1 e1 o1 rfl⟩
  | true =>
    refine (pt_cmpR op_notIn_seq (pe_sem X a) (pe_glob (v := .ref t) hg hm rfl hdb) rfl).sem (ha σ H _ o s fun v H1 d' e1 o1 n1 kd => ?_)
    subst kd
    have al : DnAll X.K F.S H1 vs ds := flat_dn ⟨vs, hv, rfl⟩
    refine ⟨t, vs, rfl, .inr (sqt_w hq), n1.flat hd, al.flat hf, ?_⟩
    rw [inF_V n1 hd al hf]
    exact ⟨_, rfl, q _ H1 e1 o1 rfl⟩
/-! slices -/
def VO (F : Fm) (X : Cx) (e : Option Expr) (δ : DE) (o : Option Int) : Prop := ∃ t, PO X e t ∧ ∀ (σ : L2.St) (H : Hp) (Q : Option Int → Hp → Prop), F.ok H → StD X.K F.S H σ δ → (∀ H', Xt F.C H H' → F.ok H' → Q o H') → t σ H Q
theorem vo_none : VO F X none δ none := ⟨_, po_none, fun σ H Q o s q => q H (.refl H) o⟩
theorem vo_some (he : VD F X e δ (.int i)) : VO F X (some e) δ (some i) := ⟨_, po_some (pe_sem X e), fun σ H Q o s q => he σ H _ o s fun v H1 d e1 o1 n1 kd => by
  subst kd
  exact ⟨i, n1.sc rfl, q H1 e1 o1⟩⟩
def cutD (ds : List PyData) (lo hi : Option Int) : List PyData := (ds.drop (HT.sIx ds.length 0 lo)).take (HT.sIx ds.length ds.length hi - HT.sIx ds.length 0 lo)
theorem DnAll.cut {K : PySem.W.Frag} {S : AS} {H : Hp} {vs : List V} {ds : List PyData} (h : DnAll K S H vs ds) (lo hi : Option Int) : DnAll K S H (cutV vs lo hi) (cutD ds lo hi) := by
  unfold cutV cutD
  rw [h.length]
  exact (h.drop _).take _
variable {lo hi : Option Expr} {l u : Option Int} {p2 : Pos}
theorem vd_slL (he : VD F X e δ (.list ds)) (hl : VO F X lo δ l) (hu : VO F X hi δ u) : VD F X (.Subscript e (.Slice lo hi none p2) pos) δ (.list (cutD ds l u)) := fun σ H Q o s q => by
  obtain ⟨tl, h1, h2⟩ := hl
  obtain ⟨tu, h3, h4⟩ := hu
  refine (pe_slice sl_list (pe_sem X e) h1 h3).sem (he σ H _ o s fun v H1 d e1 o1 n1 kd => h2 σ H1 _ o1 (o.all s e1) fun H2 e2 o2 => h4 σ H2 _ o2 (o.all s (e1.trans e2)) fun H3 e3 o3 => ?_)
  subst kd
  have n3 := Dn.mono F.sub (e2.trans e3) _ _ n1
  cases n3 with
  | lst sq al =>
    refine ⟨_, _, rfl, sq.sq, fun p hp => q _ _ _ (((e1.trans e2).trans e3).trans (.new hp)) (o3.mono (.new hp)) (.lst (.inl ⟨o3.fresh hp, .of upd_same⟩) (Dn.monoAll F.sub (.new hp) _ _ (al.cut l u))) rfl⟩
/-- a tuple's slice that isn't the whole -/
theorem vd_slT (he : VD F X e δ (.tuple ds)) (hl : VO F X lo δ l) (hu : VO F X hi δ u) (hn : ¬ (HT.sIx ds.length 0 l = 0 ∧ HT.sIx ds.length ds.length u = ds.length)) : VD F X (.Subscript e (.Slice lo hi none p2) pos) δ (.tuple (cutD ds l u)) := fun σ H Q o s q => by
  obtain ⟨tl, h1, h2⟩ := hl
  obtain ⟨tu, h3, h4⟩ := hu
  refine (pe_slice sl_tup (pe_sem X e) h1 h3).sem (he σ H _ o s fun v H1 d e1 o1 n1 kd => h2 σ H1 _ o1 (o.all s e1) fun H2 e2 o2 => h4 σ H2 _ o2 (o.all s (e1.trans e2)) fun H3 e3 o3 => ?_)
  subst kd
  have n3 := Dn.mono F.sub (e2.trans e3) _ _ n1
  cases n3 with
  | tup sq al =>
    refine ⟨_, _, rfl, sq.sq, by rw [al.length]; exact hn, fun p hp => q _ _ _ (((e1.trans e2).trans e3).trans (.new hp)) (o3.mono (.new hp)) (.tup (.inl ⟨o3.fresh hp, .of upd_same⟩) (Dn.monoAll F.sub (.new hp) _ _ (al.cut l u))) rfl⟩
end
end
end Dl

set_option Elab.async false
set_option linter.all false
set_option maxRecDepth 100000
set_option maxHeartbeats 4000000
namespace Dl
open PySem PySem.Spec PyProof.Rows L2
/-! ### calls of built-ins -/
section
variable {F : Fm} {X : Cx} {δ : DE} {k : PyData → Prop} {e a b c : Expr} {es : List Expr} {pos p : Pos} {x : Str} {d z : PyData} {ds : List PyData} {i j m : Int}
def CallD (K : PySem.W.Frag) (r : List V → Hp → VK → Prop) (ds : List PyData) (z : PyData) : Prop := ∀ (S : AS) (H : Hp) (vs : List V) (Q : VK), (∀ a, S a → H a ≠ none) → DnAll K S H vs ds → (∀ v H', Xt C0 H H' → Dn K S H' v z → Q v H') → r vs H Q
theorem ve_cb {r : List V → Hp → VK → Prop} (he : PE X e (tCB r (semA X es))) (ha : VA F X es δ fun ds => ∃ z, CallD X.K r ds z ∧ k z) : VE F X e δ k := fun σ H Q o s q =>
  he.sem (ha σ H _ o s fun vs H1 ds e1 o1 n1 ⟨z, hc, kz⟩ => hc F.S H1 vs Q o1.2 n1 fun v H' e3 nz => q v H' z (e1.trans e3.of0) (o1.mono e3) nz kz)
theorem ve_callB {id : String} {r : List V → Hp → VK → Prop} (hc : CallR X (.builtin id) r) (hm : X.mg x = none) (hv : bootBuiltins x = some (.builtin id)) (ha : VA F X (e :: es) δ fun ds => ∃ z, CallD X.K r ds z ∧ k z) (hg : Gl X x := by rfl) (hn : x ≠ "__name__" := by decide) (hdb : (x == ("__debug__" : Str)) = false := by decide)
    (he : starEach (e :: es) X.env = (false, eval e X.env) :: starEach es X.env := by rfl) (hpl : (backTo pos (starEach es X.env)).any (·.1) = false := by rfl) : VE F X (.Call (.Name x p) (e :: es) [] pos) δ k := ve_cb (pe_callB hc hg hm hv (pa_sem X _) hn hdb he hpl) ha
theorem ve_callTy {T : String} {r : List V → Hp → VK → Prop} (hc : CallR X (.type T) r) (hm : X.mg x = none) (hv : bootBuiltins x = some (.type T)) (ha : VA F X (e :: es) δ fun ds => ∃ z, CallD X.K r ds z ∧ k z) (hg : Gl X x := by rfl) (hn : x ≠ "__name__" := by decide) (hdb : (x == ("__debug__" : Str)) = false := by decide)
    (he : starEach (e :: es) X.env = (false, eval e X.env) :: starEach es X.env := by rfl) (hpl : (backTo pos (starEach es X.env)).any (·.1) = false := by rfl) : VE F X (.Call (.Name x p) (e :: es) [] pos) δ k := ve_cb (pe_callTy hc hg hm hv (pa_sem X _) hn hdb he hpl) ha
theorem vd_len (hm : X.mg "len" = none) (ha : VD F X a δ d) (hd : seqOf d = some ds) (hg : Gl X "len" := by rfl) (he : starEach [a] X.env = [(false, eval a X.env)] := by rfl) : VD F X (.Call (.Name "len" p) [a] [] pos) δ (.int (ds.length : Int)) :=
  ve_callB call_len_seq hm PySem.boot_len (VA.to (vl_cons ha vl_nil he) ⟨_, fun S H vs Q _ n q => by
    cases n with
    | cons n1 n2 =>
      cases n2
      obtain ⟨p, xs, rfl, hs, al⟩ := n1.seq hd
      refine ⟨p, xs, rfl, hs, ?_⟩
      rw [al.length]
      exact q _ H (.refl H) (.int _), rfl⟩) hg (by decide) (by decide) he rfl
theorem vd_lenS {y : Str} (hm : X.mg "len" = none) (ha : VD F X a δ (.str y)) (hl : y.length ≤ sizeLine) (hg : Gl X "len" := by rfl) (he : starEach [a] X.env = [(false, eval a X.env)] := by rfl) : VD F X (.Call (.Name "len" p) [a] [] pos) δ (.int (y.length : Int)) :=
  ve_callB call_len hm PySem.boot_len (VA.to (vl_cons ha vl_nil he) ⟨_, fun S H vs Q _ n q => by
    cases n with
    | cons n1 n2 =>
      cases n2
      cases n1
      exact ⟨_, _, rfl, ⟨hl, rfl⟩, q _ H (.refl H) (.int _)⟩, rfl⟩) hg (by decide) (by decide) he rfl
theorem abs_if (i : Int) : (if i < 0 then -i else i) = (i.natAbs : Int) := by split <;> omega
theorem max_if (i j : Int) : (if j > i then j else i) = max i j := by split <;> omega
theorem min_if (i j : Int) : (if j < i then j else i) = min i j := by split <;> omega
theorem vd_abs (hm : X.mg "abs" = none) (ha : VD F X a δ (.int i)) (hg : Gl X "abs" := by rfl) (he : starEach [a] X.env = [(false, eval a X.env)] := by rfl) : VD F X (.Call (.Name "abs" p) [a] [] pos) δ (.int (i.natAbs : Int)) :=
  ve_callB call_abs hm (by decide +kernel) (VA.to (vl_cons ha vl_nil he) ⟨_, fun S H vs Q _ n q => by
    cases n with
    | cons n1 n2 =>
      cases n2
      cases n1
      refine ⟨i, rfl, ?_⟩
      rw [abs_if]
      exact q _ H (.refl H) (.int _), rfl⟩) hg (by decide) (by decide) he rfl
theorem vd_int1 (hm : X.mg "int" = none) (ha : VD F X a δ (.int i)) (hg : Gl X "int" := by rfl) (he : starEach [a] X.env = [(false, eval a X.env)] := by rfl) : VD F X (.Call (.Name "int" p) [a] [] pos) δ (.int i) :=
  ve_callTy call_int1 hm (by decide +kernel) (VA.to (vl_cons ha vl_nil he) ⟨_, fun S H vs Q _ n q => by
    cases n with
    | cons n1 n2 =>
      cases n2
      cases n1
      exact .inl ⟨i, rfl, q _ H (.refl H) (.int _)⟩, rfl⟩) hg (by decide) (by decide) he rfl
theorem ve_int1 (hm : X.mg "int" = none) (ha : VE F X a δ fun d => ∃ i, d = .int i ∧ k (.int i)) (hg : Gl X "int" := by rfl) (he : starEach [a] X.env = [(false, eval a X.env)] := by rfl) : VE F X (.Call (.Name "int" p) [a] [] pos) δ k :=
  ve_callTy call_int1 hm (by decide +kernel) (va_cons (ha.mono fun d ⟨i, e1, w⟩ => va_nil ⟨.int i, fun S H vs Q _ n q => by
    subst e1
    cases n with
    | cons n1 n2 =>
      cases n2
      cases n1
      exact .inl ⟨i, rfl, q _ H (.refl H) (.int _)⟩, w⟩) he) hg (by decide) (by decide) he rfl
theorem vd_intB {t : Bool} (hm : X.mg "int" = none) (ha : VD F X a δ (.bool t)) (hg : Gl X "int" := by rfl) (he : starEach [a] X.env = [(false, eval a X.env)] := by rfl) : VD F X (.Call (.Name "int" p) [a] [] pos) δ (.int (if t then 1 else 0)) :=
  ve_callTy call_int1 hm (by decide +kernel) (VA.to (vl_cons ha vl_nil he) ⟨_, fun S H vs Q _ n q => by
    cases n with
    | cons n1 n2 =>
      cases n2
      cases n1
      exact .inr ⟨t, rfl, q _ H (.refl H) (.int _)⟩, rfl⟩) hg (by decide) (by decide) he rfl
theorem vd_max2 (hcm : X.calm = true) (hm : X.mg "max" = none) (ha : VD F X a δ (.int i)) (hb : VD F X b δ (.int j)) (hg : Gl X "max" := by rfl) (he : starEach [a, b] X.env = (false, eval a X.env) :: starEach [b] X.env := by rfl) (he2 : starEach [b] X.env = [(false, eval b X.env)] := by rfl) : VD F X (.Call (.Name "max" p) [a, b] [] pos) δ (.int (max i j)) :=
  ve_callB (call_max2 hcm) hm (by decide +kernel) (VA.to (vl_cons ha (vl_cons hb vl_nil he2) he) ⟨_, fun S H vs Q _ n q => by
    cases n with
    | cons n1 n2 =>
      cases n2 with
      | cons n2 n3 =>
        cases n3
        cases n1
        cases n2
        refine ⟨i, j, rfl, ?_⟩
        rw [max_if]
        exact q _ H (.refl H) (.int _), rfl⟩) hg (by decide) (by decide) he (by rw [he2]; rfl)
theorem vd_min2 (hcm : X.calm = true) (hm : X.mg "min" = none) (ha : VD F X a δ (.int i)) (hb : VD F X b δ (.int j)) (hg : Gl X "min" := by rfl) (he : starEach [a, b] X.env = (false, eval a X.env) :: starEach [b] X.env := by rfl) (he2 : starEach [b] X.env = [(false, eval b X.env)] := by rfl) : VD F X (.Call (.Name "min" p) [a, b] [] pos) δ (.int (min i j)) :=
  ve_callB (call_min2 hcm) hm (by decide +kernel) (VA.to (vl_cons ha (vl_cons hb vl_nil he2) he) ⟨_, fun S H vs Q _ n q => by
    cases n with
    | cons n1 n2 =>
      cases n2 with
      | cons n2 n3 =>
        cases n3
        cases n1
        cases n2
        refine ⟨i, j, rfl, ?_⟩
        rw [min_if]
        exact q _ H (.refl H) (.int _), rfl⟩) hg (by decide) (by decide) he (by rw [he2]; rfl)
theorem nuMin2_int (i j : Int) : nuMin2 (.int i) (.int j) = some (.int (min i j)) := by
  have e : nuLt (.int j) (.int i) = some (decide (j < i)) := rfl
  unfold nuMin2
  rw [e]
  by_cases h : j < i
  · rw [decide_eq_true h, show min i j = j by omega]; rfl
  · rw [decide_eq_false h, show min i j = i by omega]; rfl
theorem nuMin3_int (i j m : Int) : nuMin3 (.int i) (.int j) (.int m) = some (.int (min (min i j) m)) := by
  unfold nuMin3
  rw [nuMin2_int]
  exact nuMin2_int _ _
theorem vd_min3 (hcm : X.calm = true) (hm : X.mg "min" = none) (ha : VD F X a δ (.int i)) (hb : VD F X b δ (.int j)) (hc : VD F X c δ (.int m)) (hg : Gl X "min" := by rfl) (he : starEach [a, b, c] X.env = (false, eval a X.env) :: starEach [b, c] X.env := by rfl) (he2 : starEach [b, c] X.env = (false, eval b X.env) :: starEach [c] X.env := by rfl) (he3 : starEach [c] X.env = [(false, eval c X.env)] := by rfl) : VD F X (.Call (.Name "min" p) [a, b, c] [] pos) δ (.int (min (min i j) m)) :=
  ve_callB (call_min3Nu hcm) hm (by decide +kernel) (VA.to (vl_cons ha (vl_cons hb (vl_cons hc vl_nil he3) he2) he) ⟨_, fun S H vs Q _ n q => by
    cases n with
    | cons n1 n2 =>
      cases n2 with
      | cons n2 n3 =>
        cases n3 with
        | cons n3 n4 =>
          cases n4
          cases n1
          cases n2
          cases n3
          exact ⟨_, _, _, _, rfl, nuMin3_int i j m, q _ H (.refl H) (.int _)⟩, rfl⟩) hg (by decide) (by decide) he (by rw [he2, he3]; rfl)
theorem vd_bits {apos : Pos} (ha : VD F X a δ (.int i)) (hbase : attributeBase a "bit_length" X.env (eval a X.env) = eval a X.env := by rfl) (hline : (apos.endLine == pos.line) = true := by rfl) : VD F X (.Call (.Attribute a "bit_length" apos) [] [] pos) δ (.int (Builtin.Int.intBits i : Nat)) := fun σ H Q o s q =>
  (pe_bits (pe_sem X a) hbase hline).sem (ha σ H _ o s fun v H1 d e1 o1 n1 kd => by
    subst kd
    exact ⟨i, n1.sc rfl, q _ H1 _ e1 o1 (.int _) rfl⟩)
/-! isinstance -/
def tyD : PyData → String
  | .none => "NoneType"
  | .bool _ => "bool"
  | .int _ => "int"
  | .str _ => "str"
  | .list _ => "list"
  | .tuple _ => "tuple"
  | .dict _ => "dict"
theorem Dn.tyx {K : PySem.W.Frag} {S : AS} {H : Hp} {v : V} {d : PyData} (h : Dn K S H v d) : TyX K H v (.type (tyD d)) := by
  cases h with
  | non => exact .base .non
  | bl b => exact .base (.bl b)
  | int i => exact .base (.int i)
  | str y => exact .base (.str y)
  | lst s _ =>
    rcases s.sq with (s | ⟨o, s⟩) | ⟨o, its, n, hk, hc, _⟩
    · exact .base (.lst s)
    · exact .base (.frz s)
    · exact .kList hk hc
  | tup s _ =>
    rcases s.sq with (s | ⟨o, s⟩) | ⟨o, its, n, hk, hc, _⟩
    · exact .base (.tup s)
    · exact .fTuple s
    · exact .kTuple hk hc
theorem vd_isi {T : Str} {T' : String} {pT : Pos} {t : Bool} (hm : X.mg "isinstance" = none) (hT : X.mg T = none) (hvT : bootBuiltins T = some (.type T')) (he : VD F X e δ d) (hb : kitB (tyD d) T' = some t) (hg : Gl X "isinstance" := by rfl) (hgT : Gl X T := by rfl) (hnT : T ≠ "__name__" := by decide) (hdT : (T == ("__debug__" : Str)) = false := by decide)
    (hs : starEach [e, .Name T pT] X.env = (false, eval e X.env) :: starEach [.Name T pT] X.env := by rfl) (hs2 : starEach [.Name T pT] X.env = [(false, eval (.Name T pT) X.env)] := by rfl) : VD F X (.Call (.Name "isinstance" p) [e, .Name T pT] [] pos) δ (.bool t) := fun σ H Q o s q =>
  (pe_callB call_isi hg hm boot_isinstance (pa_cons (pe_sem X e) (pa_cons (pe_bltn (v := .ty T') hgT hT hvT rfl hnT hdT) pa_nil hs2) hs) (by decide) (by decide) hs (by rw [hs2]; rfl)).sem
    (he σ H _ o s fun v H1 d' e1 o1 n1 kd => by
      subst kd
      exact ⟨v, .ty T', _, _, t, rfl, .ty T', n1.tyx, kit_ty hb, q _ H1 _ e1 o1 (.bl _) rfl⟩)
def isIntD : PyData → Bool
  | .int _ => true
  | .bool _ => true
  | _ => false
def isBoolD : PyData → Bool
  | .bool _ => true
  | _ => false
def isStrD : PyData → Bool
  | .str _ => true
  | _ => false
def isTupD : PyData → Bool
  | .tuple _ => true
  | _ => false
def isLstD : PyData → Bool
  | .list _ => true
  | _ => false
theorem kit_int (d : PyData) : kitB (tyD d) "int" = some (isIntD d) := by cases d <;> (dsimp only [tyD, isIntD]; decide +kernel)
theorem kit_bool (d : PyData) : kitB (tyD d) "bool" = some (isBoolD d) := by cases d <;> (dsimp only [tyD, isBoolD]; decide +kernel)
theorem kit_str (d : PyData) : kitB (tyD d) "str" = some (isStrD d) := by cases d <;> (dsimp only [tyD, isStrD]; decide +kernel)
theorem kit_tuple (d : PyData) : kitB (tyD d) "tuple" = some (isTupD d) := by cases d <;> (dsimp only [tyD, isTupD]; decide +kernel)
theorem kit_list (d : PyData) : kitB (tyD d) "list" = some (isLstD d) := by cases d <;> (dsimp only [tyD, isLstD]; decide +kernel)
/-- isinstance(e, (T1, T2)) -/
theorem vd_isi2 {T U : Str} {T' U' : String} {pT pU pt : Pos} {x1} {t u : Bool} (hm : X.mg "isinstance" = none) (hT : X.mg T = none) (hvT : bootBuiltins T = some (.type T')) (hU : X.mg U = none) (hvU : bootBuiltins U = some (.type U')) (he : VD F X e δ d) (hb : kitB (tyD d) T' = some t) (hb2 : kitB (tyD d) U' = some u)
    (hg : Gl X "isinstance" := by rfl) (hgT : Gl X T := by rfl) (hgU : Gl X U := by rfl) (hnT : T ≠ "__name__" := by decide) (hdT : (T == ("__debug__" : Str)) = false := by decide) (hnU : U ≠ "__name__" := by decide) (hdU : (U == ("__debug__" : Str)) = false := by decide)
    (hs : starEach [e, .Tuple [.Name T pT, .Name U pU] x1 pt] X.env = (false, eval e X.env) :: starEach [.Tuple [.Name T pT, .Name U pU] x1 pt] X.env := by rfl) (hs2 : starEach [.Tuple [.Name T pT, .Name U pU] x1 pt] X.env = [(false, eval (.Tuple [.Name T pT, .Name U pU] x1 pt) X.env)] := by rfl)
    (hs3 : starEach [.Name T pT, .Name U pU] X.env = (false, eval (.Name T pT) X.env) :: starEach [.Name U pU] X.env := by rfl) (hs4 : starEach [.Name U pU] X.env = [(false, eval (.Name U pU) X.env)] := by rfl) : VD F X (.Call (.Name "isinstance" p) [e, .Tuple [.Name T pT, .Name U pU] x1 pt] [] pos) δ (.bool (t || u)) := fun σ H Q o s q =>
  (pe_callB call_isiT hg hm boot_isinstance (pa_cons (pe_sem X e) (pa_cons (pe_tup (pa_cons (pe_bltn (v := .ty T') hgT hT hvT rfl hnT hdT) (pa_cons (pe_bltn (v := .ty U') hgU hU hvU rfl hnU hdU) pa_nil hs4) hs3)) pa_nil hs2) hs) (by decide) (by decide) hs (by rw [hs2]; rfl)).sem
    (he σ H _ o s fun v H1 d' e1 o1 n1 kd => by
      subst kd
      refine ⟨by show 2 ≤ sizeLine; decide, fun tp ht => ?_⟩
      have e2 : Xt C0 H1 (upd H1 tp (.tup [.ty T', .ty U'])) := .new ht
      have n2 := Dn.mono (C := C0) (fun _ _ z => z.elim) e2 _ _ n1
      exact ⟨v, tp, _, _, [.type T', .type U'], t || u, rfl, upd_same, .cons (.ty T') (.cons (.ty U') .nil), n2.tyx,
        kitAny_cons (kit_ty hb) (fun h0 => kitAny_cons (kit_ty hb2) (fun h1 => by rw [h0, h1]; exact kitAny_nil) (fun h1 => by rw [h1]; simp)) (fun h0 => by rw [h0]; rfl), q _ _ _ (e1.trans e2.of0) (o1.mono e2) (.bl _) rfl⟩)
end
/-! ### defs -/
/-- the promise: called with data ds of which A ds d holds, it hands back d; nothing that stood is changed -/
def spD (K : PySem.W.Frag) (A : List PyData → PyData → Prop) : Sp := fun vs H Q _ => ∃ (S : AS) (ds : List PyData) (d : PyData), (∀ a, S a → H a ≠ none) ∧ DnAll K S H vs ds ∧ A ds d ∧ ∀ v H', Xt C0 H H' → Dn K S H' v d → Q v H'
/-- a def by its name, with what a caller wants of it -/
structure Df (P : Program) (w : World) (K : PySem.W.Frag) (mg : Str → Option Value) (base : Heap) (x : Str) (k : Nat) (sp : Sp) : Prop where
  ex : ∃ (f : Addr) (fd : FuncData) (ps : List Str), FnOk P w K mg base (L2.CX P w) k f fd ps sp ∧ mg x = some (.ref f) ∧ PySem.W.keepIn K (.ref f) = true ∧ Binds K fd ps []
/-- where a def stands -/
structure At (K : PySem.W.Frag) (mg : Str → Option Value) (x : Str) (st : Stmt) (ps : List Str) : Prop where
  ex : ∃ (f : Addr) (fd : FuncData), Fun K x x st f fd ∧ mg x = some (.ref f) ∧ Binds K fd ps []
section
variable {F : Fm} {X : Cx} {δ : DE} {k : PyData → Prop} {e a b c : Expr} {es : List Expr} {pos p : Pos} {x : Str} {d z : PyData} {ds : List PyData}
theorem ve_call {A : List PyData → PyData → Prop} {j n : Nat} (G : Df X.prog X.w X.K X.mg X.base x j (spD X.K A)) (hr : Room n X.A) (hj : j ≤ n) (ha : VA F X (e :: es) δ fun ds => ∃ z, A ds z ∧ k z) (hg : Gl X x := by rfl) (hdb : (x == ("__debug__" : Str)) = false := by decide)
    (he : starEach (e :: es) X.env = (false, eval e X.env) :: starEach es X.env := by rfl) (hpl : (backTo pos (starEach es X.env)).any (·.1) = false := by rfl) : VE F X (.Call (.Name x p) (e :: es) [] pos) δ k := fun σ H Q o s q => by
  obtain ⟨f, fd, ps, G1, G2, G3, G4⟩ := G.ex
  refine (pe_call G1 (hr.mono hj) hg G2 G3 G4 .nil passL (pa_sem X _) hdb he hpl).sem ?_
  refine ha σ H _ o s fun vs H1 ds e1 o1 n1 ⟨z, hA, kz⟩ => ?_
  show spD X.K A (vs ++ []) H1 Q E0
  rw [List.append_nil]
  exact ⟨F.S, ds, z, o1.2, n1, hA, fun v H' e2 n2 => q v H' z (e1.trans e2.of0) (o1.mono e2) n2 kz⟩
theorem vd_call {A : List PyData → PyData → Prop} {j n : Nat} (G : Df X.prog X.w X.K X.mg X.base x j (spD X.K A)) (hr : Room n X.A) (hj : j ≤ n) (ha : VL F X (e :: es) δ ds) (hA : A ds z) (hg : Gl X x := by rfl) (hdb : (x == ("__debug__" : Str)) = false := by decide)
    (he : starEach (e :: es) X.env = (false, eval e X.env) :: starEach es X.env := by rfl) (hpl : (backTo pos (starEach es X.env)).any (·.1) = false := by rfl) : VD F X (.Call (.Name x p) (e :: es) [] pos) δ z := ve_call G hr hj (ha.to ⟨z, hA, rfl⟩) hg hdb he hpl
theorem vd_call0 {A : List PyData → PyData → Prop} {j n : Nat} (G : Df X.prog X.w X.K X.mg X.base x j (spD X.K A)) (hr : Room n X.A) (hj : j ≤ n) (hA : A [] z) (hg : Gl X x := by rfl) (hdb : (x == ("__debug__" : Str)) = false := by decide) : VD F X (.Call (.Name x p) [] [] pos) δ z := fun σ H Q o s q => by
  obtain ⟨f, fd, ps, G1, G2, G3, G4⟩ := G.ex
  refine (pe_call0 G1 (hr.mono hj) hg G2 G3 G4 .nil passL hdb).sem ?_
  show spD X.K A ([] ++ []) H Q E0
  exact ⟨F.S, [], z, o.2, .nil, hA, fun v H' e2 n2 => q v H' z e2.of0 (o.mono e2) n2 rfl⟩
end
/-! ### statements -/
section
variable {F : Fm} {X : Cx} {δ : DE} {R : Out} {e : Expr} {rest body orelse : List Stmt} {pos : Pos}
theorem vs_nil (h : R.nx δ) : VS F X [] δ R := fun σ H D o s q => pss_nil.sem (show D.nx σ H from q.nx σ H δ (.refl H) o s h)
theorem vs_by {st : Stmt} {t : TS} (h : PS X st t) (hq : ∀ (σ : L2.St) (H : Hp) (D : Ends), F.ok H → StD X.K F.S H σ δ → EndsOk F X.K H R D → t { D with nx := semSs X rest D } σ H) : VS F X (st :: rest) δ R := fun σ H D o s q =>
  (pss_cons h (pss_sem X rest)).sem (hq σ H D o s q)
theorem vs_asg (i : Nat) {x : Str} {px : Pos} (he : VE F X e δ fun d => VS F X rest (δ.set i (some (.dat d))) R) (hN : X.N.Nodup) (hi : X.N[i]? = some x := by rfl) (hx : Loc X.env.scope x := by first | exact Or.inl rfl | exact Or.inr rfl) (hs : swapsWith e (some (.Name x px)) pos.line X.env = pure false := by rfl)
    (hf : X.fn x = true ∨ X.env.scope.names.lookup x = some .local := by first | exact .inl rfl | exact .inr rfl) : VS F X (.Assign [.Name x px] e pos :: rest) δ R :=
  vs_by (ps_set hN hi hx (pe_sem X e) hs hf) fun σ H D o s q => he σ H _ o s fun v H1 d e1 o1 n1 kd => kd _ H1 D o1 ((o.all s e1).setD i n1) (q.mono e1)
theorem vs_ret (he : VE F X e δ R.rt) : VS F X (.Return (some e) pos :: rest) δ R := vs_by (ps_ret (pe_sem X e)) fun σ H D o s q => he σ H _ o s fun v H1 d e1 o1 n1 kd => q.rt v H1 d e1 o1 n1 kd
theorem vs_if {c : Expr} (hc : VT F X c δ fun b => if b = true then VS F X body δ { R with nx := fun δ' => VS F X rest δ' R } else VS F X orelse δ { R with nx := fun δ' => VS F X rest δ' R }) : VS F X (.If c body orelse pos :: rest) δ R :=
  vs_by (ps_if (pt_sem X c) (pss_sem X body) (pss_sem X orelse)) fun σ H D o s q => hc σ H _ o s fun b H1 e1 o1 kb => by
    have q1 := q.mono e1
    have q2 : EndsOk F X.K H1 { R with nx := fun δ' => VS F X rest δ' R } { D with nx := semSs X rest D } :=
      ⟨fun σ' H' δ' e2 o2 s2 h => h σ' H' D o2 s2 (q1.mono e2), q1.bk, q1.ct, q1.rt⟩
    cases b with
    | true =>
      have kb' : VS F X body δ { R with nx := fun δ' => VS F X rest δ' R } := by simpa using kb
      exact kb' σ H1 _ o1 (o.all s e1) q2
    | false =>
      have kb' : VS F X orelse δ { R with nx := fun δ' => VS F X rest δ' R } := by simpa using kb
      exact kb' σ H1 _ o1 (o.all s e1) q2
/-- if c: body, c known to be worth t -/
theorem vs_ifB {c : Expr} {t : Bool} (hc : VB F X c δ t) (h1 : t = true → VS F X body δ { R with nx := fun δ' => VS F X rest δ' R }) (h2 : t = false → VS F X orelse δ { R with nx := fun δ' => VS F X rest δ' R }) : VS F X (.If c body orelse pos :: rest) δ R := vs_if (hc.to (by
  cases t with
  | true => simpa using h1 rfl
  | false => simpa using h2 rfl))
theorem vs_expr (he : VE F X e δ fun _ => VS F X rest δ R) (hs : swapsWith e none pos.line X.env = pure false := by rfl) : VS F X (.Expr e pos :: rest) δ R :=
  vs_by (ps_expr (pe_sem X e) hs) fun σ H D o s q => he σ H _ o s fun v H1 d e1 o1 n1 kd => kd σ H1 D o1 (o.all s e1) (q.mono e1)
/-- a, b = e1, e2 -/
theorem vs_par (i j : Nat) {x y : Str} {a b : Expr} {px py pt : Pos} {kt k2 pt2} (ha : VA F X [a, b] δ fun ds => ∃ d1 d2, ds = [d1, d2] ∧ VS F X rest ((δ.set i (some (.dat d1))).set j (some (.dat d2))) R) (hN : X.N.Nodup)
    (hw : swappedStores [.Tuple [.Name x px, .Name y py] kt pt] (.Tuple [a, b] k2 pt2) X.env = pure (some [x, y]) := by rfl) (hc : X.calm = true := by rfl) (hi : X.N[i]? = some x := by rfl) (hj : X.N[j]? = some y := by rfl) (hij : i ≠ j := by decide)
    (hx : X.env.scope.names.lookup x = some .local := by rfl) (hy : X.env.scope.names.lookup y = some .local := by rfl) (hs : swapsWithSole [.Tuple [.Name x px, .Name y py] kt pt] (.Tuple [a, b] k2 pt2) pos.line X.env = pure false := by rfl) :
    VS F X (.Assign [.Tuple [.Name x px, .Name y py] kt pt] (.Tuple [a, b] k2 pt2) pos :: rest) δ R :=
  vs_by (ps_par hc hN hi hj hij hx hy (pa_sem X _) hw hs) fun σ H D o s q => ha σ H _ o s fun vs H1 ds e1 o1 n1 ⟨d1, d2, e2, kd⟩ => by
    subst e2
    cases n1 with
    | cons n1 n2 =>
      cases n2 with
      | cons n2 n3 =>
        cases n3
        exact ⟨_, _, rfl, kd _ H1 D o1 (((o.all s e1).setD i n1).setD j n2) (q.mono e1)⟩
/-- names as a target's items -/
def setAll : DE → List Nat → List PyData → DE
  | δ, i :: is, d :: ds => setAll (δ.set i (some (.dat d))) is ds
  | δ, _, _ => δ
structure PN (X : Cx) (ts : List Expr) (is : List Nat) : Prop where
  run : ∃ t, PGs X ts t ∧ ∀ (F : Fm) (δ : DE) (σ : L2.St) (H : Hp) (vs : List V) (ds : List PyData) (Q : L2.St → Hp → Prop), StD X.K F.S H σ δ → DnAll X.K F.S H vs ds → ds.length = is.length → (∀ σ', StD X.K F.S H σ' (setAll δ is ds) → Q σ' H) → t vs σ H Q
theorem pn_nil : PN X [] [] := ⟨gNil, pgs_nil, fun F δ σ H vs ds Q s n hl q => by
  cases ds with
  | nil => cases n; exact ⟨rfl, q σ s⟩
  | cons d ds => simp at hl⟩
theorem pn_cons {x : Str} {px : Pos} {ts : List Expr} {is : List Nat} (i : Nat) (h : PN X ts is) (hN : X.N.Nodup) (hi : X.N[i]? = some x := by rfl) (hx : Loc X.env.scope x := by first | exact Or.inl rfl | exact Or.inr rfl) (hf : X.fn x = true ∨ X.env.scope.names.lookup x = some .local := by first | exact .inl rfl | exact .inr rfl)
    (hs : (assignEach (.Name x px :: ts) X.env).map (·.2) = assign (.Name x px) X.env :: (assignEach ts X.env).map (·.2) := by rfl) : PN X (.Name x px :: ts) (i :: is) := by
  obtain ⟨t, h1, h2⟩ := h.run
  refine ⟨gCons (gName i) t, pgs_cons (pg_name hN hi hx hf) h1 hs, fun F δ σ H vs ds Q s n hl q => ?_⟩
  cases ds with
  | nil => simp at hl
  | cons d ds =>
    cases n with
    | cons n1 n2 => exact ⟨_, _, rfl, h2 F _ _ H _ ds Q (s.setD i n1) n2 (by simpa using hl) q⟩
/-- a, b, .. = e, e a tuple -/
theorem vs_unp {ts : List Expr} {k1 : Nat} {pt : Pos} {is : List Nat} (h : PN X ts is) (he : VE F X e δ fun d => ∃ ds, d = .tuple ds ∧ ds.length = is.length ∧ VS F X rest (setAll δ is ds) R) (hn : (assignEach ts X.env).length = is.length := by rfl) (hc : X.calm = true := by rfl) (hst : (assignEach ts X.env).findIdx? (·.1) = none := by rfl)
    (hs : swapsWithSole [.Tuple ts k1 pt] e pos.line X.env = pure false := by rfl) (hw : swappedStores [.Tuple ts k1 pt] e X.env = pure none := by rfl) (h1 : (assignEach [.Tuple ts k1 pt] X.env).map (·.2) = [assign (.Tuple ts k1 pt) X.env] := by rfl) :
    VS F X (.Assign [.Tuple ts k1 pt] e pos :: rest) δ R := by
  obtain ⟨t, g1, g2⟩ := h.run
  exact vs_by (ps_asg (pe_sem X e) (pg_tup hc g1 hn hst) hs hw h1) fun σ H D o s q => he σ H _ o s fun v H1 d e1 o1 n1 ⟨ds, ed, hl, kd⟩ => by
    subst ed
    cases n1 with
    | tup sq al => exact ⟨_, _, rfl, sq.sq, by rw [al.length, hl], g2 F δ σ H1 _ ds _ (o.all s e1) al hl fun σ' s' => kd σ' H1 D o1 s' (q.mono e1)⟩
/-- while: I with its measure -/
theorem vs_while {c : Expr} (I : Nat → DE → Prop) (h0 : ∃ m, I m δ) (ht : ∀ m δ', I m δ' → VT F X c δ' fun b => if b = true then VS F X body δ' { R with nx := fun δ2 => ∃ m', m' < m ∧ I m' δ2, ct := fun δ2 => ∃ m', m' < m ∧ I m' δ2, bk := fun δ2 => VS F X rest δ2 R } else VS F X rest δ' R)
    (hp : PassesOwn (model X.prog X.w) X.A X.env X.xe) : VS F X (.While c body [] pos :: rest) δ R :=
  vs_by (ps_while hp (pt_sem X c) (pss_sem X body)) fun σ H D o s q => by
    refine ⟨fun m σ' H' => Xt F.C H H' ∧ F.ok H' ∧ ∃ δ', StD X.K F.S H' σ' δ' ∧ I m δ', ?_, ?_⟩
    · obtain ⟨m, hm⟩ := h0
      exact ⟨m, .refl H, o, δ, s, hm⟩
    · rintro m σ' H' ⟨e1, o1, δ', s1, hI⟩
      refine ht m δ' hI σ' H' _ o1 s1 fun b H2 e2 o2 kb => ?_
      have q2 := (q.mono e1).mono e2
      cases b with
      | true =>
        have kb' : VS F X body δ' { R with nx := fun δ2 => ∃ m', m' < m ∧ I m' δ2, ct := fun δ2 => ∃ m', m' < m ∧ I m' δ2, bk := fun δ2 => VS F X rest δ2 R } := by simpa using kb
        refine ⟨fun σ2 H3 => ∃ m', m' < m ∧ Xt F.C H H3 ∧ F.ok H3 ∧ ∃ δ', StD X.K F.S H3 σ2 δ' ∧ I m' δ', fun σ2 H3 ⟨m', h1, h2⟩ => ⟨m', h1, h2⟩, ?_⟩
        exact kb' σ' H2 _ o2 (s1.mono F.sub e2)
          ⟨fun σ3 H3 δ3 e3 o3 s3 ⟨m', h1, h2⟩ => ⟨m', h1, (e1.trans e2).trans e3, o3, δ3, s3, h2⟩, fun σ3 H3 δ3 e3 o3 s3 h => h σ3 H3 D o3 s3 (q2.mono e3), fun σ3 H3 δ3 e3 o3 s3 ⟨m', h1, h2⟩ => ⟨m', h1, (e1.trans e2).trans e3, o3, δ3, s3, h2⟩, q2.rt⟩
      | false =>
        have kb' : VS F X rest δ' R := by simpa using kb
        exact kb' σ' H2 D o2 (s1.mono F.sub e2) q2
end
/-! ### what is walked -/
structure Walks (F : Fm) (K : PySem.W.Frag) (J : It) (ds : List PyData) (H : Hp) : Prop where
  go : ∀ i H', Xt F.C H H' → i < ds.length → J.go i H'
  yld : ∀ (S' : AS), (∀ a o, F.C a o → S' a ∨ Tb o) → (∀ a, H a ≠ none → S' a → F.S a) → ∀ i H' x H3, Xt F.C H H' → J.yld i H' x H3 → Xt C0 H' H3 ∧ ∀ d, ds[i]? = some d → Dn K S' H3 x d
  stop : ∀ H', Xt F.C H H' → J.stop ds.length H'
def semI (X : Cx) (tg iter : Expr) : TI := fun σ H R => ∀ (pins : List (Addr × Obj)) (s : Shared), Inv X pins σ H s → wpAny (model X.prog X.w) X.A (eval iter X.env) (fun v s1 => wpAny (model X.prog X.w) X.A (pyIter v) (PIE X pins σ tg R) X.xe s1) X.xe s
theorem pi_sem (X : Cx) (tg iter : Expr) : PI X tg iter (semI X tg iter) := ⟨fun pins s σ H R I h => h pins s I⟩
theorem _root_.L2.PI.sem {X : Cx} {tg iter : Expr} {t : TI} (h : PI X tg iter t) {σ : L2.St} {H : Hp} {R : It → Hp → Prop} (q : t σ H R) : semI X tg iter σ H R := fun pins s I => h.run pins s σ H R I q
def VI (F : Fm) (X : Cx) (tg iter : Expr) (δ : DE) (k : List PyData → Prop) : Prop := ∀ (σ : L2.St) (H : Hp) (R : It → Hp → Prop), F.ok H → StD X.K F.S H σ δ →
  (∀ (J : It) (H' : Hp) (ds : List PyData), Xt F.C H H' → F.ok H' → Walks F X.K J ds H' → k ds → R J H') → semI X tg iter σ H R
section
variable {F : Fm} {X : Cx} {δ : DE} {R : Out} {e tg iter : Expr} {rest body : List Stmt} {pos p : Pos} {k : List PyData → Prop}
theorem vi_list (he : VE F X e δ fun d => ∃ ds, d = .list ds ∧ k ds) : VI F X tg e δ k := fun σ H R o s q =>
  (pi_list (pe_sem X e)).sem (he σ H _ o s fun v H1 d e1 o1 n1 ⟨ds, ed, kd⟩ => by
    subst ed
    cases n1 with
    | @lst a xs _ sq al =>
      refine ⟨a, rfl, ⟨xs, sq.sq⟩, q _ H1 ds e1 o1 ⟨fun i H' e2 hi => ?_, fun S' hC hS i H' x H3 e2 y => ?_, fun H' e2 => ?_⟩ kd⟩
      · have hx : i < xs.length := by rw [al.length]; exact hi
        exact ⟨xs, xs[i], (sq.mono F.sub e2).sq, by simp [hx]⟩
      · obtain ⟨e3, y⟩ := y
        subst e3
        refine ⟨.refl _, fun d hd => ?_⟩
        obtain ⟨v, h1, h2⟩ := (Dn.monoAll hC e2 _ _ (Dn.lessAll hS _ _ al)).get hd
        have := (y xs ((sq.mono F.sub e2).sq)).symm.trans h1
        cases this
        exact h2
      · exact ⟨xs, (sq.mono F.sub e2).sq, by rw [al.length]; exact Nat.le_refl _⟩)
theorem vi_tup (he : VE F X e δ fun d => ∃ ds, d = .tuple ds ∧ k ds) : VI F X tg e δ k := fun σ H R o s q =>
  (pi_tup (pe_sem X e)).sem (he σ H _ o s fun v H1 d e1 o1 n1 ⟨ds, ed, kd⟩ => by
    subst ed
    cases n1 with
    | @tup a xs _ sq al =>
      refine ⟨a, rfl, ⟨xs, sq.sq⟩, q _ H1 ds e1 o1 ⟨fun i H' e2 hi => ?_, fun S' hC hS i H' x H3 e2 y => ?_, fun H' e2 => ?_⟩ kd⟩
      · have hx : i < xs.length := by rw [al.length]; exact hi
        exact ⟨xs, xs[i], (sq.mono F.sub e2).sq, by simp [hx]⟩
      · obtain ⟨e3, y⟩ := y
        subst e3
        refine ⟨.refl _, fun d hd => ?_⟩
        obtain ⟨v, h1, h2⟩ := (Dn.monoAll hC e2 _ _ (Dn.lessAll hS _ _ al)).get hd
        have := (y xs ((sq.mono F.sub e2).sq)).symm.trans h1
        cases this
        exact h2
      · exact ⟨xs, (sq.mono F.sub e2).sq, by rw [al.length]; exact Nat.le_refl _⟩)
/-- lo, lo + 1, .. -/
def rngD (lo : Int) (n : Nat) : List PyData := (List.range n).map fun (i : Nat) => PyData.int (lo + (i : Int))
theorem rngD_len (lo : Int) (n : Nat) : (rngD lo n).length = n := by simp [rngD]
theorem rngD_get {lo : Int} {n i : Nat} {d : PyData} (h : (rngD lo n)[i]? = some d) : d = .int (lo + (i : Int)) := by
  unfold rngD at h
  rw [List.getElem?_map] at h
  cases q : (List.range n)[i]? with
  | none => rw [q] at h; cases h
  | some j =>
    rw [q] at h
    have : j = i := by
      rw [List.getElem?_range] at q
      · exact (Option.some.inj q).symm
      · have := (List.getElem?_eq_some_iff.mp q).1; simpa using this
    subst this
    exact (Option.some.inj h).symm
theorem rngD_mem {lo : Int} {n : Nat} {d : PyData} (h : d ∈ rngD lo n) : ∃ i : Nat, i < n ∧ d = .int (lo + (i : Int)) := by
  unfold rngD at h
  obtain ⟨i, h1, h2⟩ := List.mem_map.mp h
  exact ⟨i, List.mem_range.mp h1, h2.symm⟩
theorem walks_rng {K : PySem.W.Frag} {H : Hp} (lo : Int) (n : Nat) : Walks F K (Itr lo n) (rngD lo n) H :=
  ⟨fun i H' _ hi => by rw [rngD_len] at hi; exact hi, fun S' hC hS i H' x H3 _ y => by
    obtain ⟨e1, e2⟩ := y
    subst e1 e2
    exact ⟨.refl _, fun d hd => by rw [rngD_get hd]; exact .int _⟩, fun H' _ => by rw [rngD_len]; exact Nat.le_refl n⟩
theorem vi_range1 {a : Expr} (hm : X.mg "range" = none) (ha : VE F X a δ fun d => ∃ n : Int, d = .int n ∧ (-(2 ^ 62) ≤ n ∧ n < 2 ^ 62) ∧ k (rngD 0 n.toNat)) (hg : Gl X "range" := by rfl) (hs : starEach [a] X.env = [(false, eval a X.env)] := by rfl) : VI F X tg (.Call (.Name "range" p) [a] [] pos) δ k := fun σ H R o s q =>
  (pi_range1 hg hm (pa_cons (pe_sem X a) pa_nil hs) hs).sem (ha σ H _ o s fun v H1 d e1 o1 n1 ⟨n, ed, hn, kd⟩ => by
    subst ed
    cases n1
    exact ⟨n, rfl, hn.1, hn.2, q _ H1 _ e1 o1 (walks_rng 0 n.toNat) kd⟩)
theorem vi_range2 {a b : Expr} (hm : X.mg "range" = none) (ha : VE F X a δ fun d => VE F X b δ fun d' => ∃ m n : Int, d = .int m ∧ d' = .int n ∧ (-(2 ^ 62) ≤ m ∧ m < 2 ^ 62 ∧ -(2 ^ 62) ≤ n ∧ n < 2 ^ 62) ∧ k (rngD m (n - m).toNat)) (hg : Gl X "range" := by rfl)
    (hs : starEach [a, b] X.env = [(false, eval a X.env), (false, eval b X.env)] := by rfl) (hs2 : starEach [b] X.env = [(false, eval b X.env)] := by rfl) : VI F X tg (.Call (.Name "range" p) [a, b] [] pos) δ k := fun σ H R o s q =>
  (pi_range2 hg hm (pa_cons (pe_sem X a) (pa_cons (pe_sem X b) pa_nil hs2) (by rw [hs, hs2])) hs hs2).sem (ha σ H _ o s fun v H1 d e1 o1 n1 hb => hb σ H1 _ o1 (o.all s e1) fun v2 H2 d2 e2 o2 n2 ⟨m, n, ed, ed2, hn, kd⟩ => by
    subst ed ed2
    cases n1
    cases n2
    exact ⟨m, n, rfl, hn, q _ H2 _ (e1.trans e2) o2 (walks_rng m _) kd⟩)
/-- for a name in iter -/
theorem vs_for (j : Nat) {x : Str} {px : Pos} (I : Nat → DE → Prop) (hi : VI F X (.Name x px) iter δ fun ds => I 0 δ ∧
      (∀ i d δ', ds[i]? = some d → I i δ' → VS F X body (δ'.set j (some (.dat d))) { R with nx := I (i + 1), ct := I (i + 1), bk := fun δ2 => VS F X rest δ2 R }) ∧ ∀ δ', I ds.length δ' → VS F X rest δ' R)
    (hN : X.N.Nodup) (hp : PassesOwn (model X.prog X.w) X.A X.env X.xe) (hc : X.calm = true := by rfl) (hj : X.N[j]? = some x := by rfl) (hx : Loc X.env.scope x := by first | exact Or.inl rfl | exact Or.inr rfl) (hf : X.fn x = true ∨ X.env.scope.names.lookup x = some .local := by first | exact .inl rfl | exact .inr rfl)
    (hs : ∀ x, foldedSetIterable iter X.env x = pure x := by intro _; rfl) : VS F X (.For (.Name x px) iter body [] pos :: rest) δ R :=
  vs_by (ps_for hp hc (pi_sem X _ iter) (pg_name hN hj hx hf) (pss_sem X body) hs) fun σ H D o s q => hi σ H _ o s fun J H1 ds e1 o1 wk ⟨h0, h1, h2⟩ => by
    refine ⟨fun i m σ' H' => m = ds.length - i ∧ i ≤ ds.length ∧ Xt F.C H1 H' ∧ F.ok H' ∧ ∃ δ', StD X.K F.S H' σ' δ' ∧ I i δ', ⟨ds.length, by omega, by omega, .refl _, o1, δ, o.all s e1, h0⟩, ?_⟩
    rintro i m σ' H' ⟨rfl, hi, e2, o2, δ', s2, hI⟩
    by_cases hlt : i < ds.length
    · refine .inr ⟨wk.go i H' e2 hlt, fun σ3 H3 => Xt F.C H1 H3 ∧ F.ok H3 ∧ ∃ δ', StD X.K F.S H3 σ3 δ' ∧ I (i + 1) δ', fun σ3 H3 h3 => ⟨ds.length - (i + 1), by omega, rfl, hlt, h3⟩, fun y H3 hy => ?_⟩
      obtain ⟨e3, n3⟩ := wk.yld F.S F.sub (fun _ _ z => z) i H' y H3 e2 hy
      have hd : ds[i]? = some ds[i] := by simp [hlt]
      have o3 := o2.mono e3
      have e13 := e2.trans (e3.of0 (C := F.C))
      have q3 := (q.mono e1).mono e13
      refine h1 i _ δ' hd hI (σ'.set j (some y)) H3 _ o3 ((s2.mono F.sub e3.of0).set j (n3 _ hd)) ⟨fun σ4 H4 δ4 e4 o4 s4 h => ⟨e13.trans e4, o4, δ4, s4, h⟩, fun σ4 H4 δ4 e4 o4 s4 h => h σ4 H4 D o4 s4 (q3.mono e4), fun σ4 H4 δ4 e4 o4 s4 h => ⟨e13.trans e4, o4, δ4, s4, h⟩, q3.rt⟩
    · have e : i = ds.length := by omega
      subst e
      exact .inl ⟨wk.stop H' e2, h2 δ' hI σ' H' D o2 s2 ((q.mono e1).mono e2)⟩
end
/-! ### list comprehensions -/
/-- what is made of the items: those that fail the test are left out -/
inductive LcR (b : PyData → Bool) (P : PyData → PyData → Prop) : List PyData → List PyData → Prop
  | nil : LcR b P [] []
  | skip {x : PyData} {xs ys : List PyData} : b x = false → LcR b P xs ys → LcR b P (x :: xs) ys
  | take {x y : PyData} {xs ys : List PyData} : b x = true → P x y → LcR b P xs ys → LcR b P (x :: xs) (y :: ys)
theorem LcR.snoc_skip {b : PyData → Bool} {P : PyData → PyData → Prop} {x : PyData} (hx : b x = false) : ∀ {xs ys : List PyData}, LcR b P xs ys → LcR b P (xs ++ [x]) ys
  | _, _, .nil => .skip hx .nil
  | _, _, .skip h t => .skip h (t.snoc_skip hx)
  | _, _, .take h p t => .take h p (t.snoc_skip hx)
theorem LcR.snoc_take {b : PyData → Bool} {P : PyData → PyData → Prop} {x y : PyData} (hx : b x = true) (hp : P x y) : ∀ {xs ys : List PyData}, LcR b P xs ys → LcR b P (xs ++ [x]) (ys ++ [y])
  | _, _, .nil => .take hx hp .nil
  | _, _, .skip h t => .skip h (t.snoc_take hx hp)
  | _, _, .take h p t => .take h p (t.snoc_take hx hp)
theorem LcR.len {b : PyData → Bool} {P : PyData → PyData → Prop} : ∀ {xs ys : List PyData}, LcR b P xs ys → ys.length ≤ xs.length
  | _, _, .nil => Nat.le_refl _
  | _, _, .skip _ t => Nat.le_succ_of_le t.len
  | _, _, .take _ _ t => Nat.succ_le_succ t.len
theorem LcR.det {b : PyData → Bool} {g : PyData → PyData} : ∀ {xs ys : List PyData}, LcR b (fun x y => y = g x) xs ys → ys = (xs.filter b).map g
  | _, _, .nil => rfl
  | _, _, .skip h t => by simp [h, t.det]
  | _, _, .take h p t => by simp [h, p, t.det]
theorem LcR.none {P : PyData → PyData → Prop} : ∀ {xs ys : List PyData}, LcR (fun _ => false) P xs ys → ys = []
  | _, _, .nil => rfl
  | _, _, .skip _ t => t.none
  | _, _, .take h _ _ => by cases h
theorem LcR.all {P : PyData → PyData → Prop} : ∀ {xs ys : List PyData}, LcR (fun _ => true) P xs ys → ys.length = xs.length ∧ ∀ y ∈ ys, ∃ x ∈ xs, P x y
  | _, _, .nil => ⟨rfl, fun _ h => by cases h⟩
  | _, _, .skip h _ => by cases h
  | _, _, .take _ p t => by
    obtain ⟨h1, h2⟩ := t.all
    refine ⟨congrArg (· + 1) h1, fun y hy => ?_⟩
    rcases List.mem_cons.mp hy with rfl | hy
    · exact ⟨_, List.mem_cons_self, p⟩
    · obtain ⟨x, h3, h4⟩ := h2 y hy
      exact ⟨x, List.mem_cons_of_mem _ h3, h4⟩
/-- the tests of a clause -/
def semTs (X : Cx) (ifs : List Expr) : TT := fun σ H Q => ∀ (pins : List (Addr × Obj)) (s : Shared), Inv X pins σ H s → wpAny (model X.prog X.w) X.A (forIn ifs true fun c r => if r = true then do let ok ← isTrue c X.env (eval c X.env); pure (ForInStep.yield ok) else pure (ForInStep.yield r)) (TP X pins σ Q) X.xe s
def VTs (F : Fm) (X : Cx) (ifs : List Expr) (δ : DE) (k : Bool → Prop) : Prop := ∀ (σ : L2.St) (H : Hp) (Q : Bool → Hp → Prop), F.ok H → StD X.K F.S H σ δ → (∀ (b : Bool) (H' : Hp), Xt F.C H H' → F.ok H' → k b → Q b H') → semTs X ifs σ H Q
theorem vts_nil {F : Fm} {X : Cx} {δ : DE} : VTs F X [] δ fun b => b = true := fun σ H Q o s q pins sh I => pts_nil.run pins sh σ H Q I (q true H (.refl H) o rfl)
theorem vts_one {F : Fm} {X : Cx} {δ : DE} {c : Expr} {k : Bool → Prop} (h : VT F X c δ k) : VTs F X [c] δ k := fun σ H Q o s q pins sh I => (pts_one (pt_sem X c)).run pins sh σ H Q I (h σ H Q o s q)
section
variable {F : Fm} {X : Cx} {δ : DE} {elt iter : Expr} {ifs : List Expr} {scope : Scope} {pos : Pos} {k : PyData → Prop}
theorem ve_lc_read {x : Str} {px : Pos} (hsf : F.soft) (j : Nat) (b : PyData → Bool) (P : PyData → PyData → Prop)
    (hi : VI F X (.Name x px) iter δ fun ds => ds.length ≤ 100000 ∧
      (∀ d ∈ ds, ∀ (E : Addr) (s : Shared) (H : Hp) (C : Addr) (cl : List (Str × Addr)) (fp : List Addr), VTs (F.more E) (X.blk s H scope (compEnvC scope cl C X.env) fp) ifs (δ.set j (some (.dat d))) fun t => t = b d) ∧
      (∀ d ∈ ds, b d = true → ∀ (E : Addr) (s : Shared) (H : Hp) (C : Addr) (cl : List (Str × Addr)) (fp : List Addr), VE (F.more E) (X.blk s H scope (compEnvC scope cl C X.env) fp) elt (δ.set j (some (.dat d))) (P d)) ∧ ∀ ys, LcR b P ds ys → k (.list ys)) : ∀ (σ : L2.St) (H : Hp) (Q : VK), F.ok H → StD X.K F.S H σ δ → (∀ (v : V) (H' : Hp) (d : PyData), Xt F.C H H' → F.ok H' → Dn X.K F.S H' v d → k d → Q v H') →
    tLc (semI X (.Name x px) iter) (gName j) (fun σ H Q => ∀ (s : Shared) (H' : Hp) (C : Addr) (cl : List (Str × Addr)) (fp : List Addr), semTs (X.blk s H' scope (compEnvC scope cl C X.env) fp) ifs σ H Q) (fun σ H Q => ∀ (s : Shared) (H' : Hp) (C : Addr) (cl : List (Str × Addr)) (fp : List Addr), semE (X.blk s H' scope (compEnvC scope cl C X.env) fp) elt σ H Q) [j] σ H Q := fun σ H Q o s q =>
    (hi σ H _ o s fun J H1 ds e1 o1 wk ⟨hl, ht, he, hk⟩ D hD => by
      have s1 := o.all s e1
      refine ⟨fun i m H' => m = ds.length - i ∧ i ≤ ds.length ∧ Xt F.C H1 H' ∧ F.ok H' ∧ ∃ acc ys, H' D = some (.lst acc) ∧ DnAll X.K (F.more D).S H' acc ys ∧ LcR b P (ds.take i) ys,
        ⟨ds.length, by omega, by omega, .new hD, o1.mono (.new hD), [], [], upd_same, .nil, by rw [List.take_zero]; exact .nil⟩, ?_⟩
      rintro i m H' ⟨rfl, hi, e2, o2, acc, ys, hD', na, hr⟩
      have nD : ¬ F.S D := o1.fresh hD
      by_cases hlt : i < ds.length
      · refine .inr ⟨wk.go i H' e2 hlt, fun H3 => Xt F.C H1 H3 ∧ F.ok H3 ∧ ∃ acc ys, H3 D = some (.lst acc) ∧ DnAll X.K (F.more D).S H3 acc ys ∧ LcR b P (ds.take (i + 1)) ys, fun H3 h3 => ⟨ds.length - (i + 1), by omega, rfl, hlt, h3⟩, fun y H3 hy => ?_⟩
        have hmore : ∀ a, H1 a ≠ none → (F.more D).S a → F.S a := fun a ha z => by
          rcases z with z | z
          · exact z
          · subst z; exact absurd hD ha
        have hsub : ∀ a o, F.C a o → (F.more D).S a ∨ Tb o := fun a o z => (F.sub a o z).imp .inl id
        obtain ⟨e3, n3⟩ := wk.yld (F.more D).S hsub hmore i H' y H3 e2 hy
        have hd : ds[i]? = some ds[i] := by simp [hlt]
        have hm : ds[i] ∈ ds := List.getElem_mem hlt
        have htk : ds.take (i + 1) = ds.take i ++ [ds[i]] := by rw [List.take_add_one, hd]; rfl
        have o3 := o2.mono e3
        have e13 := e2.trans (e3.of0 (C := F.C))
        have hD3 : H3 D = some (.lst acc) := e3.k D _ (fun z => z) hD'
        have mo : (F.more D).ok H3 := o3.more (by rw [hD3]; exact fun z => by cases z)
        have sl3 : StD X.K (F.more D).S H3 σ δ := (s1.less hmore).mono hsub e13
        have sw : StD X.K (F.more D).S H3 ((wipe σ [j]).set j (some y)) (δ.set j (some (.dat ds[i]))) := by
          have e9 : (wipe σ [j]).set j (some y) = σ.set j (some y) := by
            show (σ.set j none).set j (some y) = _
            rw [List.set_set]
          rw [e9]
          exact sl3.setD j (n3 _ hd)
        have wp : wipe ((wipe σ [j]).set j (some y)) [j] = wipe σ [j] := by
          show ((σ.set j none).set j (some y)).set j none = σ.set j none
          rw [List.set_set, List.set_set]
        have keep : ∀ {H4 : Hp}, Xt F.C H3 H4 → H4 D = some (.lst acc) := fun {H4} e4 => e4.k D _ (fun z => (F.sub _ _ z).elim nD nTl) hD3
        refine ⟨wp, fun sh Hs C cl fp => ht _ hm D sh Hs C cl fp _ H3 _ mo sw fun t H4 e4 o4 et => ?_⟩
        have et' : t = b ds[i] := et
        have na4 : DnAll X.K (F.more D).S H4 acc ys := Dn.monoAll hsub (e3.of0.trans e4) _ _ na
        by_cases hb : b ds[i] = true
        · rw [et', hb]
          show (if true = true then _ else _)
          rw [if_pos rfl]
          refine fun sh Hs C cl fp => he _ hm hb D sh Hs C cl fp _ H4 _ o4 (sw.mono hsub e4) fun v H5 z e5 o5 nz hz => ?_
          refine ⟨acc, keep (e4.trans e5), ?_, ?_⟩
          · have h1 := na.length
            have h2 := hr.len
            have h3 : (ds.take i).length ≤ i := by rw [List.length_take]; omega
            exact Nat.lt_of_le_of_lt (show acc.length ≤ 100000 by omega) (by decide)
          · have eu : Xt (fun a _ => (F.more D).S a) H5 (upd H5 D (.lst (acc ++ [v]))) := .put (.inl fun _ => .inr rfl)
            refine ⟨((e13.trans e4).trans e5).put2 hD, ?_, acc ++ [v], ys ++ [z], upd_same, ?_, ?_⟩
            · exact Fm.ok.same hsf o5.less (fun a u sa hu => by
                have hne : a ≠ D := fun z => by
                  subst z
                  rcases sa with sa | sa
                  · exact nD sa
                  · rw [keep (e4.trans e5)] at hu
                    exact sa acc (Option.some.inj hu).symm
                rw [upd_ne hne]; exact hu)
            · exact DnAll.append (Dn.monoAll (S := (F.more D).S) (fun _ _ z => .inl z) eu _ _ (Dn.monoAll hsub e5 _ _ na4)) (.cons (Dn.mono (S := (F.more D).S) (fun _ _ z => .inl z) eu _ _ nz) .nil)
            · rw [htk]; exact hr.snoc_take hb hz
        · have hb' : b ds[i] = false := by simpa using hb
          rw [et', hb']
          show (if false = true then _ else _)
          rw [if_neg Bool.false_ne_true]
          exact ⟨e13.trans e4, o4.less, acc, ys, keep e4, na4, by rw [htk]; exact hr.snoc_skip hb'⟩
      · have e : i = ds.length := by omega
        subst e
        have hr' : LcR b P ds ys := by rw [List.take_length] at hr; exact hr
        refine .inl ⟨wk.stop H' e2, q _ H' _ (e1.trans e2) o2 (.lst (.inl ⟨nD, .inl hD'⟩) (Dn.lessAll (fun a _ z => .inl z) _ _ na)) (hk ys hr')⟩)
theorem ve_lc {x : Str} {px : Pos} (j : Nat) (b : PyData → Bool) (P : PyData → PyData → Prop)
    (hi : VI F X (.Name x px) iter δ fun ds => ds.length ≤ 100000 ∧
      (∀ d ∈ ds, ∀ (E : Addr) (s : Shared) (H : Hp) (C : Addr) (cl : List (Str × Addr)) (fp : List Addr), VTs (F.more E) (X.blk s H scope (compEnvC scope cl C X.env) fp) ifs (δ.set j (some (.dat d))) fun t => t = b d) ∧
      (∀ d ∈ ds, b d = true → ∀ (E : Addr) (s : Shared) (H : Hp) (C : Addr) (cl : List (Str × Addr)) (fp : List Addr), VE (F.more E) (X.blk s H scope (compEnvC scope cl C X.env) fp) elt (δ.set j (some (.dat d))) (P d)) ∧ ∀ ys, LcR b P ds ys → k (.list ys))
    (hN : X.N.Nodup) (ok : BlkOk X.N X.env.scope scope [(x, j)]) (hg : ∀ (s : Shared) (H : Hp) (C : Addr) (cl : List (Str × Addr)) (fp : List Addr), PG (X.blk s H scope (compEnvC scope cl C X.env) fp) (.Name x px) (gName j))
    (hc : X.calm = true := by rfl) (hs : ∀ x, foldedSetIterable iter X.env x = pure x := by intro _; rfl) (hsf : F.soft := by first | exact Fm.soft_pure | assumption | exact HasRow.soft (by assumption) | exact Fm.soft_more Fm.soft_pure | exact Fm.soft_more (HasRow.soft (by assumption))) : VE F X (.ListComp elt [⟨.Name x px, iter, ifs, 0⟩] scope pos) δ k := fun σ H Q o s q =>
  (pe_lc (own := [(x, j)]) (g := gName j) (tt := fun σ H Q => ∀ (s : Shared) (H' : Hp) (C : Addr) (cl : List (Str × Addr)) (fp : List Addr), semTs (X.blk s H' scope (compEnvC scope cl C X.env) fp) ifs σ H Q) (te := fun σ H Q => ∀ (s : Shared) (H' : Hp) (C : Addr) (cl : List (Str × Addr)) (fp : List Addr), semE (X.blk s H' scope (compEnvC scope cl C X.env) fp) elt σ H Q)
    hc hN (pi_sem X _ iter) ok hg (fun s H C cl fp => ⟨fun pins sh σ H' Q I h => h s H C cl fp pins sh I⟩) (fun s H C cl fp => ⟨fun pins sh σ H' Q I h => h s H C cl fp pins sh I⟩) hs).sem
    (ve_lc_read hsf j b P hi σ H Q o s q)
end
end Dl

set_option Elab.async false
set_option linter.all false
set_option maxRecDepth 100000
set_option maxHeartbeats 4000000
namespace Dl
open PySem PySem.Spec PyProof.Rows L2
/-! ### a def by its body -/
def startD (N : List Str) (ss : List Sl) : DE := ss.map some ++ List.replicate (N.length - ss.length) none
inductive SlAll (K : PySem.W.Frag) (S : AS) (H : Hp) : List V → List Sl → Prop
  | nil : SlAll K S H [] []
  | cons {v : V} {vs : List V} {s : Sl} {ss : List Sl} : SlD K S H v s → SlAll K S H vs ss → SlAll K S H (v :: vs) (s :: ss)
theorem SlAll.length {K : PySem.W.Frag} {S : AS} {H : Hp} : ∀ {vs : List V} {ss : List Sl}, SlAll K S H vs ss → vs.length = ss.length
  | _, _, .nil => rfl
  | _, _, .cons _ t => congrArg (· + 1) t.length
theorem SlAll.get {K : PySem.W.Frag} {S : AS} {H : Hp} : ∀ {vs : List V} {ss : List Sl} {i : Nat} {s : Sl}, SlAll K S H vs ss → ss[i]? = some s → ∃ v, vs[i]? = some v ∧ SlD K S H v s
  | _, _, _, _, .nil, e => by simp at e
  | _, _, 0, _, .cons r _, e => by simp at e; subst e; exact ⟨_, rfl, r⟩
  | _, _, i + 1, s, .cons _ t, e => by
    obtain ⟨u, h1, h2⟩ := SlAll.get (i := i) (s := s) t (by simpa using e)
    exact ⟨u, by simpa using h1, h2⟩
theorem DnAll.sl {K : PySem.W.Frag} {S : AS} {H : Hp} : ∀ {vs : List V} {ds : List PyData}, DnAll K S H vs ds → SlAll K S H vs (ds.map .dat)
  | _, _, .nil => .nil
  | _, _, .cons h t => .cons h t.sl
theorem std_start {K : PySem.W.Frag} {S : AS} {H : Hp} {N : List Str} {vs : List V} {ss : List Sl} (h : SlAll K S H vs ss) : StD K S H (L2.start N vs) (startD N ss) := by
  have hl := h.length
  refine ⟨by unfold L2.start startD; simp [hl], fun i s q => ?_⟩
  unfold startD at q
  by_cases hi : i < ss.length
  · rw [List.getElem?_append_left (by simpa using hi), List.getElem?_map] at q
    cases e : ss[i]? with
    | none => rw [e] at q; cases q
    | some t =>
      rw [e] at q
      cases q
      obtain ⟨v, h1, h2⟩ := h.get e
      refine ⟨v, ?_, h2⟩
      unfold L2.start
      rw [List.getElem?_append_left (by simpa [hl] using hi), List.getElem?_map, h1]
      rfl
  · rw [List.getElem?_append_right (by simpa using hi), List.getElem?_replicate] at q
    split at q <;> cases q
section
variable {P : Program} {w : World} {K : PySem.W.Frag} {mg : Str → Option Value} {base : Heap}
theorem df_of {x : Str} {st : Stmt} {ps N : List Str} {A : List PyData → PyData → Prop} {k : Nat} (T : At K mg x st ps) (S : FnScope N ps (defScope st)) (hlen : ∀ ds d, A ds d → ds.length = ps.length)
    (h : ∀ (f : Addr) (cdv : Value) (A' : Around) (outer : List Env) (s : Shared) (H : Hp) (E : XK) (S' : AS) (ds : List PyData) (d : PyData), Room k (A'.deeper (envOfC x (defScope st) s.heap.objs.size f cdv)) → A ds d →
      VS (Fm.pure S') (cxOf (L2.CX P w) P w K mg base N x (defScope st) f cdv A' outer s H E).nox (defBody st) (startD N (ds.map .dat)) { nx := fun _ => d = .none, rt := fun y => y = d }) : Df P w K mg base x (k + 1) (spD K A) := by
  obtain ⟨f, fd, F, hm, hb⟩ := T.ex
  refine ⟨f, fd, ps, F.okX S ?_ (fun cdv A' outer s H vs Q E hr hs => ?_), hm, F.kp, hb⟩
  · rintro vs H Q E ⟨S', ds, d, _, hn, hA, _⟩
    rw [hn.length]; exact hlen _ _ hA
  · obtain ⟨S', ds, d, hdom, hn, hA, q⟩ := hs
    refine ⟨_, PSs.nox (pss_sem _ (defBody st)), ?_⟩
    refine h f cdv A' outer s H E S' ds d hr hA (L2.start N vs) H _ ⟨trivial, hdom⟩ (std_start hn.sl) ⟨fun σ' H' δ' e o s2 hd => ?_, fun _ _ _ _ _ _ z => z.elim, fun _ _ _ _ _ _ z => z.elim, fun v H' d' e o n hd => ?_⟩
    · subst hd; exact q _ H' e .non
    · subst hd; exact q v H' e n
/-- the same def by a weaker promise -/
theorem Df.imp {x : Str} {k : Nat} {sp sp' : Sp} (G : Df P w K mg base x k sp) (h : ∀ vs H Q E, sp' vs H Q E → sp vs H Q E) : Df P w K mg base x k sp' := by
  obtain ⟨f, fd, ps, G1, G2, G3, G4⟩ := G.ex
  exact ⟨f, fd, ps, G1.imp h, G2, G3, G4⟩
theorem Df.mono {x : Str} {k j : Nat} {sp : Sp} (G : Df P w K mg base x k sp) (h : k ≤ j) : Df P w K mg base x j sp := by
  obtain ⟨f, fd, ps, G1, G2, G3, G4⟩ := G.ex
  exact ⟨f, fd, ps, G1.mono h, G2, G3, G4⟩
end
end Dl

set_option Elab.async false
set_option linter.all false
set_option maxRecDepth 100000
set_option maxHeartbeats 4000000
namespace Dl
open PySem PySem.Spec PyProof.Rows L2
/-! ### the row of draws: [script, at, mixed, rest] -/
/-- the script stands and is not changed -/
def ScOk (K : PySem.W.Frag) (S : AS) (r scr : Addr) (H : Hp) : Prop := ∃ ns : List Int, ns.length ≤ 63 ∧ ((S scr ∧ scr ≠ r ∧ Rd H scr (.lst (ns.map V.int))) ∨ SqL K (fun _ => none) scr (ns.map V.int))
structure RowOk (K : PySem.W.Frag) (S : AS) (r scr : Addr) (H : Hp) : Prop where
  row : ∃ i s c : Int, 0 ≤ i ∧ 0 ≤ s ∧ s < 2147483647 ∧ 0 ≤ c ∧ H r = some (.lst [.ref scr, .int i, .int s, .int c])
  scr : ScOk K S r scr H
theorem ScOk.sq {K : PySem.W.Frag} {S : AS} {r scr : Addr} {H : Hp} (h : ScOk K S r scr H) : ∃ ns : List Int, ns.length ≤ 63 ∧ SqL K H scr (ns.map V.int) := by
  obtain ⟨ns, hl, h⟩ := h
  refine ⟨ns, hl, ?_⟩
  rcases h with ⟨_, _, h⟩ | h
  · exact .inl h
  · exact sql_w h
theorem ScOk.mono {K : PySem.W.Frag} {S : AS} {r scr : Addr} {H H' : Hp} (e : Xt (fun a _ => a = r) H H') (h : ScOk K S r scr H) : ScOk K S r scr H' := by
  obtain ⟨ns, hl, h⟩ := h
  refine ⟨ns, hl, ?_⟩
  rcases h with ⟨s, n, h⟩ | h
  · exact .inl ⟨s, n, rd_mono e (fun _ _ => n) nTl h⟩
  · exact .inr h
theorem RowOk.same {K : PySem.W.Frag} {S : AS} {r scr : Addr} {H H' : Hp} (hr : S r) (e : ∀ a o, S a → H a = some o → H' a = some o) (h : RowOk K S r scr H) : RowOk K S r scr H' := by
  obtain ⟨⟨i, s, c, h1, h2, h3, h4, h5⟩, ns, hl, hs⟩ := h
  refine ⟨⟨i, s, c, h1, h2, h3, h4, e _ _ hr h5⟩, ns, hl, ?_⟩
  rcases hs with ⟨s, n, h⟩ | h
  · refine .inl ⟨s, n, ?_⟩
    rcases h with h | ⟨o, h⟩
    · exact .inl (e _ _ s h)
    · exact .inr ⟨o, e _ _ s h⟩
  · exact .inr h
/-- the frame of a def that draws -/
def Fm.row (K : PySem.W.Frag) (S : AS) (r scr : Addr) (hr : S r) : Fm := ⟨S, fun a _ => a = r, RowOk K S r scr, fun a _ z => .inl (by subst z; exact hr), fun H H' e h => h.same hr fun a o _ q => e.k a o (fun z => z) q⟩
/-- the promise of a def that draws: row first, then data; some data of which k holds is handed back -/
def spR (K : PySem.W.Frag) (A : List PyData → (PyData → Prop) → Prop) : Sp := fun vs H Q _ => ∃ (S : AS) (r scr : Addr) (vs' : List V) (ds : List PyData) (k : PyData → Prop), vs = .ref r :: vs' ∧ S r ∧ (∀ a, S a → H a ≠ none) ∧ RowOk K S r scr H ∧ DnAll K S H vs' ds ∧ A ds k ∧
  ∀ v H' d, Xt (fun a _ => a = r) H H' → RowOk K S r scr H' → Dn K S H' v d → k d → Q v H'
/-- a frame in which the row at r may be drawn from -/
structure HasRow (F : Fm) (K : PySem.W.Frag) (r : Addr) : Prop where
  s : F.S r
  c : ∀ o, F.C r o
  soft : F.soft
  ok : ∀ H, F.J H → ∃ scr, RowOk K F.S r scr H ∧ ∀ H', Xt (fun a _ => a = r) H H' → RowOk K F.S r scr H' → F.J H'
theorem hasRow {K : PySem.W.Frag} {S : AS} {r scr : Addr} {hr : S r} : HasRow (Fm.row K S r scr hr) K r := ⟨hr, fun _ => rfl, fun H H' e h => h.same hr fun a o s => e a o (.inl s), fun H h => ⟨scr, h, fun H' _ h' => h'⟩⟩
theorem hasRow_more {F : Fm} {K : PySem.W.Frag} {r D : Addr} (h : HasRow F K r) : HasRow (F.more D) K r := by
  refine ⟨.inl h.s, h.c, Fm.soft_more h.soft, fun H hj => ?_⟩
  obtain ⟨scr, h1, h2⟩ := h.ok H hj
  obtain ⟨hrow, ns, hl, hs⟩ := h1
  refine ⟨scr, ⟨hrow, ns, hl, ?_⟩, fun H' e h' => h2 H' e ⟨h'.row, ScOk.mono e ⟨ns, hl, hs⟩⟩⟩
  rcases hs with ⟨s, n, q⟩ | q
  · exact .inl ⟨.inl s, n, q⟩
  · exact .inr q
section
variable {F : Fm} {X : Cx} {δ : DE} {k : PyData → Prop} {e : Expr} {es : List Expr} {pos p pr : Pos} {x xr : Str} {r : Addr}
/-- f(row, ..) -/
theorem ve_draw (ir : Nat) {A : List PyData → (PyData → Prop) → Prop} {j n : Nat} (hF : HasRow F X.K r) (G : Df X.prog X.w X.K X.mg X.base x j (spR X.K A)) (hr : Room n X.A) (hj : j ≤ n) (ha : VA F X es δ fun ds => ∃ k', A ds k' ∧ ∀ d, k' d → k d)
    (hrow : δ[ir]? = some (some (.raw (.ref r))) := by rfl) (hN : X.N[ir]? = some xr := by rfl) (hv : Vis X.env.scope xr := by first | exact Or.inl rfl | exact Or.inr (Or.inl rfl) | exact Or.inr (Or.inr rfl)) (hg : Gl X x := by rfl) (hdb : (x == ("__debug__" : Str)) = false := by decide)
    (hdr : (xr == ("__debug__" : Str)) = false := by decide) (hcr : (xr == ("__classdict__" : Str)) = false := by decide)
    (he : starEach (.Name xr pr :: es) X.env = (false, eval (.Name xr pr) X.env) :: starEach es X.env := by rfl) (hpl : (backTo pos (starEach es X.env)).any (·.1) = false := by rfl) : VE F X (.Call (.Name x p) (.Name xr pr :: es) [] pos) δ k := fun σ H Q o s q => by
  obtain ⟨f, fd, ps, G1, G2, G3, G4⟩ := G.ex
  refine (pe_call G1 (hr.mono hj) hg G2 G3 G4 .nil passL (pa_cons (pe_var hN hv hdr hcr) (pa_sem X es) he) hdb he hpl).sem ?_
  obtain ⟨v, h1, h2⟩ := s.at_ ir _ hrow
  have h2' : v = .ref r := h2
  subst h2'
  refine ⟨_, h1, ha σ H _ o s fun vs H1 ds e1 o1 n1 ⟨k', hA, hk⟩ => ?_⟩
  show spR X.K A ((V.ref r :: vs) ++ []) H1 Q E0
  rw [List.append_nil]
  obtain ⟨scr, r1, r2⟩ := hF.ok H1 o1.1
  refine ⟨F.S, r, scr, vs, ds, k', rfl, hF.s, o1.2, r1, n1, hA, fun v H' d e2 ro n2 kd => ?_⟩
  have e3 : Xt F.C H1 H' := e2.mono fun a o z => by subst z; exact hF.c o
  refine q v H' d (e1.trans e3) ⟨r2 H' e2 ro, fun a sa z => ?_⟩ n2 (hk d kd)
  by_cases hr : a = r
  · subst hr
    obtain ⟨i, s', c, _, _, _, _, h5⟩ := ro.row
    rw [h5] at z; cases z
  · cases q : H1 a with
    | none => exact o1.2 a sa q
    | some u => rw [e2.k a u hr q] at z; cases z
end
section
variable {P : Program} {w : World} {K : PySem.W.Frag} {mg : Str → Option Value} {base : Heap}
theorem dr_of {x : Str} {st : Stmt} {ps N : List Str} {A : List PyData → (PyData → Prop) → Prop} {k : Nat} (T : At K mg x st ps) (S : FnScope N ps (defScope st)) (hlen : ∀ ds d, A ds d → ds.length + 1 = ps.length)
    (h : ∀ (f : Addr) (cdv : Value) (A' : Around) (outer : List Env) (s : Shared) (H : Hp) (E : XK) (F : Fm) (r : Addr) (ds : List PyData) (k' : PyData → Prop), Room k (A'.deeper (envOfC x (defScope st) s.heap.objs.size f cdv)) → HasRow F K r → A ds k' →
      VS F (cxOf (L2.CX P w) P w K mg base N x (defScope st) f cdv A' outer s H E).nox (defBody st) (startD N (.raw (.ref r) :: ds.map .dat)) { nx := fun _ => k' .none, rt := k' }) : Df P w K mg base x (k + 1) (spR K A) := by
  obtain ⟨f, fd, F, hm, hb⟩ := T.ex
  refine ⟨f, fd, ps, F.okX S ?_ (fun cdv A' outer s H vs Q E hr hs => ?_), hm, F.kp, hb⟩
  · rintro vs H Q E ⟨S', r, scr, vs', ds, d, rfl, _, _, _, hn, hA, _⟩
    show vs'.length + 1 = ps.length
    rw [hn.length]; exact hlen _ _ hA
  · obtain ⟨S', r, scr, vs', ds, k', rfl, hs, hdom, hrow, hn, hA, q⟩ := hs
    refine ⟨_, PSs.nox (pss_sem _ (defBody st)), ?_⟩
    refine h f cdv A' outer s H E (Fm.row K S' r scr hs) r ds k' hr hasRow hA (L2.start N (.ref r :: vs')) H _ ⟨hrow, hdom⟩ (std_start (ss := .raw (.ref r) :: ds.map .dat) (.cons rfl hn.sl)) ⟨fun σ' H' δ' e o s2 hd => ?_, fun _ _ _ _ _ _ z => z.elim, fun _ _ _ _ _ _ z => z.elim, fun v H' d' e o n hd => ?_⟩
    · exact q _ H' _ e o.1 .non hd
    · exact q v H' d' e o.1 n hd
/-- _law_taken -/
def A_taken : List PyData → (PyData → Prop) → Prop := fun ds k => ∃ m : Int, 0 < m ∧ m < 2 ^ 64 ∧ ds = [.int m] ∧ k = fun d => ∃ i : Int, d = .int i ∧ 0 ≤ i ∧ i < m
end
theorem atI_int {α : Type} {xs : List α} {i : Int} (h0 : 0 ≤ i) (h1 : i < xs.length) : ∃ d, atI xs i = some d ∧ xs[i.toNat]? = some d ∧ d ∈ xs := by
  have hi : i.toNat < xs.length := by omega
  refine ⟨xs[i.toNat], ?_, by simp [hi], List.getElem_mem hi⟩
  unfold atI ixN
  rw [if_pos h0, if_pos h1]
  simp [hi]
theorem va_consD {F : Fm} {X : Cx} {δ : DE} {e : Expr} {es : List Expr} {d : PyData} {k : List PyData → Prop} (he : VD F X e δ d) (hr : VA F X es δ fun ds => k (d :: ds)) (hs : starEach (e :: es) X.env = (false, eval e X.env) :: starEach es X.env := by rfl) : VA F X (e :: es) δ k := va_cons (he.to hr) hs
def A_pick : List PyData → (PyData → Prop) → Prop := fun ds k => ∃ xs : List PyData, xs ≠ [] ∧ xs.length ≤ 100000 ∧ ds = [.list xs] ∧ k = fun d => d ∈ xs
section
variable {F : Fm} {X : Cx} {δ : DE} {k : PyData → Prop} {e : Expr} {pos p pr : Pos} {xr : Str} {r : Addr} {m : Int} {n : Nat}
/-- _law_taken(row, e) -/
theorem ve_taken (ir : Nat) (hF : HasRow F X.K r) (G : Df X.prog X.w X.K X.mg X.base "_law_taken" 1 (spR X.K A_taken)) (hr : Room n X.A) (hj : 1 ≤ n) (he : VD F X e δ (.int m)) (h0 : 0 < m) (h1 : m < 2 ^ 64) (hk : ∀ i : Int, 0 ≤ i → i < m → k (.int i))
    (hrow : δ[ir]? = some (some (.raw (.ref r))) := by rfl) (hN : X.N[ir]? = some xr := by rfl) (hv : Vis X.env.scope xr := by first | exact Or.inl rfl | exact Or.inr (Or.inl rfl) | exact Or.inr (Or.inr rfl)) (hg : Gl X "_law_taken" := by rfl)
    (hdr : (xr == ("__debug__" : Str)) = false := by decide) (hcr : (xr == ("__classdict__" : Str)) = false := by decide)
    (hs : starEach [.Name xr pr, e] X.env = (false, eval (.Name xr pr) X.env) :: starEach [e] X.env := by rfl) (hs2 : starEach [e] X.env = [(false, eval e X.env)] := by rfl) : VE F X (.Call (.Name "_law_taken" p) [.Name xr pr, e] [] pos) δ k :=
  ve_draw ir hF G hr hj (VA.to (vl_cons he vl_nil hs2) ⟨_, ⟨m, h0, h1, rfl, rfl⟩, fun d ⟨i, e1, a, b⟩ => by subst e1; exact hk i a b⟩) hrow hN hv hg (by decide) hdr hcr hs (by rw [hs2]; rfl)
/-- _law_pick(row, e) -/
theorem ve_pick (ir : Nat) (hF : HasRow F X.K r) (G : Df X.prog X.w X.K X.mg X.base "_law_pick" 2 (spR X.K A_pick)) (hr : Room n X.A) (hj : 2 ≤ n) (he : VE F X e δ fun d => ∃ xs, d = .list xs ∧ xs ≠ [] ∧ xs.length ≤ 100000 ∧ ∀ x ∈ xs, k x)
    (hrow : δ[ir]? = some (some (.raw (.ref r))) := by rfl) (hN : X.N[ir]? = some xr := by rfl) (hv : Vis X.env.scope xr := by first | exact Or.inl rfl | exact Or.inr (Or.inl rfl) | exact Or.inr (Or.inr rfl)) (hg : Gl X "_law_pick" := by rfl)
    (hdr : (xr == ("__debug__" : Str)) = false := by decide) (hcr : (xr == ("__classdict__" : Str)) = false := by decide)
    (hs : starEach [.Name xr pr, e] X.env = (false, eval (.Name xr pr) X.env) :: starEach [e] X.env := by rfl) (hs2 : starEach [e] X.env = [(false, eval e X.env)] := by rfl) : VE F X (.Call (.Name "_law_pick" p) [.Name xr pr, e] [] pos) δ k :=
  ve_draw ir hF G hr hj (va_cons (he.mono fun d ⟨xs, e1, a, b, c⟩ => va_nil ⟨_, ⟨xs, a, b, by rw [e1], rfl⟩, c⟩) hs2) hrow hN hv hg (by decide) hdr hcr hs (by rw [hs2]; rfl)
end
end Dl

set_option Elab.async false
set_option linter.all false
set_option maxRecDepth 100000
set_option maxHeartbeats 4000000
namespace Dl
open PySem PySem.Spec PyProof.Rows L2
section
variable {F : Fm} {X : Cx} {δ : DE} {k : PyData → Prop} {e a b : Expr} {pos p : Pos} {x : Str} {ds es : List PyData} {R : Out} {rest : List Stmt}
theorem opd_isB {K : PySem.W.Frag} {s t : Bool} : OpD K (fun x y H Q => ∃ a b, x = .bl a ∧ y = .bl b ∧ Q (.bl (decide (a = b))) H) (.bool s) (.bool t) (.bool (decide (s = t))) := fun S H ux uy Q _ nx ny q => ⟨s, t, nx.sc rfl, ny.sc rfl, q _ H (.refl H) (.bl _)⟩
theorem opd_isnotB {K : PySem.W.Frag} {s t : Bool} : OpD K (fun x y H Q => ∃ a b, x = .bl a ∧ y = .bl b ∧ Q (.bl (!decide (a = b))) H) (.bool s) (.bool t) (.bool (!decide (s = t))) := fun S H ux uy Q _ nx ny q => ⟨s, t, nx.sc rfl, ny.sc rfl, q _ H (.refl H) (.bl _)⟩
theorem vd_isB {s t : Bool} (ha : VD F X a δ (.bool s)) (hb : VD F X b δ (.bool t)) : VD F X (.Compare a [.Is] [b] pos) δ (.bool (decide (s = t))) := vd_cmp op_is_bl (nomark _) opd_isB ha hb
theorem vb_isB {s t : Bool} (ha : VD F X a δ (.bool s)) (hb : VD F X b δ (.bool t)) : VB F X (.Compare a [.Is] [b] pos) δ (decide (s = t)) := vb_cmp op_is_bl (nomark _) opd_isB ha hb
theorem vb_isnotB {s t : Bool} (ha : VD F X a δ (.bool s)) (hb : VD F X b δ (.bool t)) : VB F X (.Compare a [.IsNot] [b] pos) δ (!decide (s = t)) := vb_cmp op_isnot_bl (nomark _) opd_isnotB ha hb
/-- tuple + tuple, lists + -/
theorem opd_catT {K : PySem.W.Frag} {xs ys : List PyData} (hx : xs ≠ []) (hy : ys ≠ []) (hl : xs.length + ys.length ≤ 100000) : OpD K (rCatT K) (.tuple xs) (.tuple ys) (.tuple (xs ++ ys)) := fun S H ux uy Q hS nx ny q => by
  cases nx with
  | tup s1 a1 =>
    cases ny with
    | tup s2 a2 =>
      have l1 := a1.length
      have l2 := a2.length
      refine ⟨_, _, _, _, rfl, rfl, s1.sq, s2.sq, fun z => ?_, by rw [l1, l2]; exact sz_le hl, fun z => ?_, fun _ p hp => q _ _ (.new hp) (.tup (.inl ⟨fun z => hS _ z hp, .of upd_same⟩) (Dn.monoAll (C := C0) (fun _ _ z => z.elim) (.new hp) _ _ (a1.append a2)))⟩
      · subst z; exact hx (List.length_eq_zero_iff.mp l1.symm)
      · subst z; exact absurd (List.length_eq_zero_iff.mp l2.symm) hy
theorem vd_catT {xs ys : List PyData} (ha : VD F X a δ (.tuple xs)) (hb : VD F X b δ (.tuple ys)) (hx : xs ≠ [] := by simp) (hy : ys ≠ [] := by simp) (hl : xs.length + ys.length ≤ 100000 := by simp) : VD F X (.BinOp a .Add b pos) δ (.tuple (xs ++ ys)) := vd_op op_catT (opd_catT hx hy hl) ha hb
/-- min of a list of ints that holds m, the least -/
theorem vd_minL {ns : List Int} {m : Int} (hm : X.mg "min" = none) (ha : VD F X a δ (.list (ns.map .int))) (h1 : m ∈ ns) (h2 : ∀ y ∈ ns, m ≤ y) (hc : X.calm = true := by rfl) (hg : Gl X "min" := by rfl) (he : starEach [a] X.env = [(false, eval a X.env)] := by rfl) : VD F X (.Call (.Name "min" p) [a] [] pos) δ (.int m) :=
  ve_callB (cr_min hc) hm (by decide +kernel) (VA.to (vl_cons ha vl_nil he) ⟨_, fun S H vs Q _ n q => by
    cases n with
    | cons n1 n2 =>
      cases n2
      cases n1 with
      | lst sq al =>
        have e := dn_ints al
        subst e
        refine ⟨_, ns, rfl, sq.sq, List.length_pos_of_mem h1, fun m' g1 g2 => ?_⟩
        have : m' = m := Int.le_antisymm (g2 m h1) (h2 m' g1)
        rw [this]
        exact q _ H (.refl H) (.int _), rfl⟩) hg (by decide) (by decide) he rfl
/-- sorted of ints -/
theorem vd_sortedI {ns ms : List Int} (hm : X.mg "sorted" = none) (ha : VD F X a δ (.list (ns.map .int))) (hs : ∀ l : List Int, l.Perm ns → l.Pairwise (· ≤ ·) → l = ms) (hg : Gl X "sorted" := by rfl) (he : starEach [a] X.env = [(false, eval a X.env)] := by rfl) : VD F X (.Call (.Name "sorted" p) [a] [] pos) δ (.list (ms.map .int)) :=
  ve_callB cr_sortedI hm (by decide +kernel) (VA.to (vl_cons ha vl_nil he) ⟨_, fun S H vs Q hS n q => by
    cases n with
    | cons n1 n2 =>
      cases n2
      cases n1 with
      | lst sq al =>
        have e := dn_ints al
        subst e
        refine ⟨_, ns, rfl, sq.sq, fun l p g1 g2 g3 => ?_⟩
        have el := hs l g1 g2
        subst el
        exact q _ _ (.new g3) (.lst (.inl ⟨fun z => hS _ z g3, .of upd_same⟩) ints_dn), rfl⟩) hg (by decide) (by decide) he rfl
/-- tuple(list) -/
theorem vd_tupL (hm : X.mg "tuple" = none) (ha : VD F X a δ (.list ds)) (hg : Gl X "tuple" := by rfl) (he : starEach [a] X.env = [(false, eval a X.env)] := by rfl) : VD F X (.Call (.Name "tuple" p) [a] [] pos) δ (.tuple ds) :=
  ve_callTy call_tuple_of hm (by decide +kernel) (VA.to (vl_cons ha vl_nil he) ⟨_, fun S H vs Q hS n q => by
    cases n with
    | cons n1 n2 =>
      cases n2
      cases n1 with
      | lst sq al => exact ⟨_, _, rfl, .inl ⟨sq.sq, fun l hl => q _ _ (.new hl) (.tup (.inl ⟨fun z => hS _ z hl, .of upd_same⟩) (Dn.monoAll (C := C0) (fun _ _ z => z.elim) (.new hl) _ _ al))⟩⟩, rfl⟩) hg (by decide) (by decide) he rfl
/-- all of a list of bools -/
theorem vd_all {bs : List Bool} (hm : X.mg "all" = none) (ha : VD F X a δ (.list (bs.map .bool))) (hc : X.calm = true := by rfl) (hg : Gl X "all" := by rfl) (he : starEach [a] X.env = [(false, eval a X.env)] := by rfl) : VD F X (.Call (.Name "all" p) [a] [] pos) δ (.bool (bs.all id)) :=
  ve_callB (cr_all hc) hm (by decide +kernel) (VA.to (vl_cons ha vl_nil he) ⟨_, fun S H vs Q _ n q => by
    cases n with
    | cons n1 n2 =>
      cases n2
      cases n1 with
      | lst sq al =>
        have e : ∀ {vs : List V} {bs : List Bool}, DnAll X.K S H vs (bs.map .bool) → vs = bs.map V.bl := by
          intro vs bs
          induction bs generalizing vs with
          | nil => intro h; cases h; rfl
          | cons b r ih =>
            intro h
            cases h with
            | cons g1 g2 => cases g1; rw [ih g2]; rfl
        have e2 := e al
        subst e2
        exact ⟨_, bs, rfl, sq.sq, q _ H (.refl H) (.bl _)⟩, rfl⟩) hg (by decide) (by decide) he rfl
/-- xs + ys of lists: both new or tracked ones -/
theorem DnAll.rev {K : PySem.W.Frag} {S : AS} {H : Hp} : ∀ {vs : List V} {ds : List PyData}, DnAll K S H vs ds → DnAll K S H vs.reverse ds.reverse
  | _, _, .nil => .nil
  | _, _, .cons h t => by
    rw [List.reverse_cons, List.reverse_cons]
    exact t.rev.append (.cons h .nil)
theorem vd_revL {kk : Nat} {p1 p2 p3 : Pos} (ha : VD F X e δ (.list ds)) : VD F X (.Subscript e (.Slice none none (some (.UnaryOp .USub (.Constant (.int 1) kk p1) p2)) p3) pos) δ (.list ds.reverse) := fun σ H Q o s q =>
  (pe_revL (pe_sem X e)).sem (ha σ H _ o s fun v H1 d e1 o1 n1 kd => by
    subst kd
    cases n1 with
    | lst sq al => exact ⟨_, _, rfl, sq.sq, fun p hp => q _ _ _ (e1.trans (.new hp)) (o1.mono (.new hp)) (.lst (.inl ⟨o1.fresh hp, .of upd_same⟩) (Dn.monoAll F.sub (.new hp) _ _ al.rev)) rfl⟩)
/-- y = [elt for x in iter if ..] -/
theorem vs_setLc {y xx : Str} {py px : Pos} {elt iter : Expr} {ifs : List Expr} {scope : Scope} {spos : Pos} (i j : Nat) (bt : PyData → Bool) (P : PyData → PyData → Prop)
    (hi : VI F X (.Name xx px) iter δ fun ds => ds.length ≤ 100000 ∧
      (∀ d ∈ ds, ∀ (E : Addr) (s : Shared) (H : Hp) (C : Addr) (cl : List (Str × Addr)) (fp : List Addr), VTs (F.more E) (X.blk s H scope (compEnvC scope cl C X.env) fp) ifs (δ.set j (some (.dat d))) fun t => t = bt d) ∧
      (∀ d ∈ ds, bt d = true → ∀ (E : Addr) (s : Shared) (H : Hp) (C : Addr) (cl : List (Str × Addr)) (fp : List Addr), VE (F.more E) (X.blk s H scope (compEnvC scope cl C X.env) fp) elt (δ.set j (some (.dat d))) (P d)) ∧
      ∀ ys, LcR bt P ds ys → VS F X rest (δ.set i (some (.dat (.list ys)))) R)
    (hN : X.N.Nodup) (ok : BlkOk X.N X.env.scope scope [(xx, j)]) (hg : ∀ (s : Shared) (H : Hp) (C : Addr) (cl : List (Str × Addr)) (fp : List Addr), PG (X.blk s H scope (compEnvC scope cl C X.env) fp) (.Name xx px) (gName j))
    (hsw : swapsWith (.ListComp elt [⟨.Name xx px, iter, ifs, 0⟩] scope pos) (some (.Name y py)) spos.line X.env = pure true) (hy : X.N[i]? = some y := by rfl) (hyl : X.env.scope.names.lookup y = some .local := by rfl) (hc : X.calm = true := by rfl) (hs : ∀ x, foldedSetIterable iter X.env x = pure x := by intro _; rfl) (hsf : F.soft := by first | exact Fm.soft_pure | assumption | exact HasRow.soft (by assumption) | exact Fm.soft_more Fm.soft_pure | exact Fm.soft_more (HasRow.soft (by assumption))) :
    VS F X (.Assign [.Name y py] (.ListComp elt [⟨.Name xx px, iter, ifs, 0⟩] scope pos) spos :: rest) δ R := by
  refine vs_by (ps_setLc (i := i) (own := [(xx, j)]) (g := gName j) (wi := semI X (.Name xx px) iter) (tt := fun σ H Q => ∀ (s : Shared) (H' : Hp) (C : Addr) (cl : List (Str × Addr)) (fp : List Addr), semTs (X.blk s H' scope (compEnvC scope cl C X.env) fp) ifs σ H Q) (te := fun σ H Q => ∀ (s : Shared) (H' : Hp) (C : Addr) (cl : List (Str × Addr)) (fp : List Addr), semE (X.blk s H' scope (compEnvC scope cl C X.env) fp) elt σ H Q)
    hc hN hy hyl hsw (pi_sem X _ iter) ok hg (fun s H C cl fp => ⟨fun pins sh σ H' Q I h => h s H C cl fp pins sh I⟩) (fun s H C cl fp => ⟨fun pins sh σ H' Q I h => h s H C cl fp pins sh I⟩) hs) fun σ H D o s q => ?_
  have core := ve_lc_read (F := F) (X := X) (δ := δ) (elt := elt) (iter := iter) (ifs := ifs) (scope := scope) (x := xx) (px := px) (k := fun d => VS F X rest (δ.set i (some (.dat d))) R) hsf j bt P (fun σ H R o s h => hi σ H R o s fun J H' ds e o w kk => h J H' ds e o w ⟨kk.1, kk.2.1, kk.2.2.1, fun ys hy => kk.2.2.2 ys hy⟩)
  exact core σ H _ o s fun v H1 d e1 o1 n1 kd => kd _ H1 D o1 ((o.all s e1).setD i n1) (q.mono e1)
end
/-! ### the law -/
def spLaw (K : PySem.W.Frag) : Sp := fun vs H Q _ => ∃ (a : Addr) (ns : List Int), vs = [.ref a] ∧ SqL K H a (ns.map V.int) ∧ ns.length ≤ 63 ∧ ∀ H', Q (.bl true) H'
section
variable {P : Program} {w : World} {K : PySem.W.Frag} {mg : Str → Option Value} {base : Heap}
/-- def law(script): row = [script, 0, c, 0]; .. -/
theorem law_of {st : Stmt} {N : List Str} {k : Nat} {c : Int} {f : Addr} {fd : FuncData} {rest : List Stmt} {p1 p2 p3 p4 p5 p6 p7 : Pos} {j1 j2 j3} (Fu : Fun K "law" "law" st f fd) (S : FnScope N ["script"] (defScope st)) (c0 : 0 ≤ c) (c1 : c < 2147483647)
    (hbody : defBody st = .Assign [.Name "row" p1] (.List [.Name "script" p2, .Constant (.int 0) j1 p3, .Constant (.int c) j2 p4, .Constant (.int 0) j3 p5] p6) p7 :: rest) (h0 : N[0]? = some (("script" : Str))) (h1 : N[1]? = some ("row" : Str)) (hv0 : (defScope st).names.lookup ("script" : Str) = some .local) (hv1 : (defScope st).names.lookup ("row" : Str) = some .local ∨ (defScope st).names.lookup ("row" : Str) = some .cell)
    (h : ∀ (f : Addr) (cdv : Value) (A' : Around) (outer : List Env) (s : Shared) (H : Hp) (E : XK) (F : Fm) (r a : Addr), Room k (A'.deeper (envOfC "law" (defScope st) s.heap.objs.size f cdv)) → HasRow F K r →
      VS F (cxOf CX0 P w K mg base N "law" (defScope st) f cdv A' outer s H E).nox rest ((startD N [.raw (.ref a)]).set 1 (some (.raw (.ref r)))) { nx := fun _ => False, rt := fun y => y = .bool true })
    (hsw : ∀ (X : Cx), swapsWith (.List [.Name "script" p2, .Constant (.int 0) j1 p3, .Constant (.int c) j2 p4, .Constant (.int 0) j3 p5] p6) (some (.Name "row" p1)) p7.line X.env = pure false) (hst : ∀ (X : Cx), X.env.scope = defScope st → starEach [.Name "script" p2, .Constant (.int 0) j1 p3, .Constant (.int c) j2 p4, .Constant (.int 0) j3 p5] X.env = (false, eval (.Name "script" p2) X.env) :: starEach [.Constant (.int 0) j1 p3, .Constant (.int c) j2 p4, .Constant (.int 0) j3 p5] X.env) :
    FnOk P w K mg base CX0 (k + 1) f fd ["script"] (spLaw K) := by
  refine Fu.ok S ?_ (fun cdv A' outer s H vs Q E hr hs => ?_)
  · rintro vs H Q E ⟨a, ns, rfl, _⟩; rfl
  · obtain ⟨a, ns, rfl, hsq, hl, q⟩ := hs
    rw [hbody]
    generalize hX : (cxOf CX0 P w K mg base N "law" (defScope st) f cdv A' outer s H E).nox = X
    have hXN : X.N = N := by subst hX; rfl
    have hXs : X.env.scope = defScope st := by subst hX; rfl
    have hXfn : X.fn "row" = true := by subst hX; rfl
    have nd : X.N.Nodup := by rw [hXN]; exact S.nd
    refine ⟨_, pss_cons (ps_set (i := 1) nd (by rw [hXN]; exact h1) (by unfold L2.Loc; rw [hXs]; exact hv1) (pe_lst (pa_cons (pe_var (i := 0) (by rw [hXN]; exact h0) (.inl (by rw [hXs]; exact hv0))) (pa_cons pe_int (pa_cons pe_int (pa_cons pe_int pa_nil))) (hst X hXs))) (hsw X) (.inl hXfn)) (pss_sem X rest), ?_⟩
    refine ⟨_, rfl, by show 4 ≤ sizeLine; decide, fun p hp => ?_⟩
    have ne : ∀ u, H a = some u → a ≠ p := fun u e z => by rw [z, hp] at e; cases e
    have xt : Xt C0 H (upd H p (.lst [.ref a, .int 0, .int c, .int 0])) := .new hp
    have hS : (fun b => b = p ∨ (b = a ∧ H a ≠ none)) p := .inl rfl
    have row : RowOk K (fun b => b = p ∨ (b = a ∧ H a ≠ none)) p a (upd H p (.lst [.ref a, .int 0, .int c, .int 0])) := by
      refine ⟨⟨0, c, 0, by decide, c0, c1, by decide, upd_same⟩, ns, hl, ?_⟩
      rcases hsq with h | h
      · have h' : H a ≠ none := rd_some h
        refine .inl ⟨.inr ⟨rfl, h'⟩, ?_, rd_mono xt (fun _ _ z => z) nTl h⟩
        intro z
        rw [z] at h'
        exact h' hp
      · exact .inr (.inr h)
    have hbod := h f cdv A' outer s H E (Fm.row K (fun b => b = p ∨ (b = a ∧ H a ≠ none)) p a hS) p a hr hasRow
    rw [hX] at hbod
    have ok : (Fm.row K (fun b => b = p ∨ (b = a ∧ H a ≠ none)) p a hS).ok (upd H p (.lst [.ref a, .int 0, .int c, .int 0])) := ⟨row, fun b hb => by
      rcases hb with rfl | ⟨rfl, hb⟩
      · rw [upd_same]; exact fun z => by cases z
      · by_cases e : b = p
        · subst e; exact absurd hp hb
        · rw [upd_ne e]; exact hb⟩
    have sd : StD X.K (Fm.row K (fun b => b = p ∨ (b = a ∧ H a ≠ none)) p a hS).S (upd H p (.lst [.ref a, .int 0, .int c, .int 0])) ((L2.start N [.ref a]).set 1 (some (.ref p))) ((startD N [.raw (.ref a)]).set 1 (some (.raw (.ref p)))) :=
      (std_start (ss := [.raw (.ref a)]) (.cons rfl .nil)).set (s := .raw (.ref p)) 1 rfl
    exact hbod _ _ _ ok sd ⟨fun _ _ _ _ _ _ z => z.elim, fun _ _ _ _ _ _ z => z.elim, fun _ _ _ _ _ _ z => z.elim, fun v H' d _ _ n hd => by
      subst hd
      cases n
      exact q _⟩
/-! ### what the top has written -/
theorem at_mk {h : Heap} {x : Str} {st : Stmt} {ps : List Str} {f : Addr} {oc : Value} {od an : Option Addr} {osl : Array (Option Value)} {kV dc pm cd ct : Value} (X : K.In h) (G : h.Ns mainGlobals mg) (a : PySem.W.nsIn K mainGlobals x = some (some (.ref f)))
    (l : K.lookup f = some ⟨oc, od, .func (PySem.W.fnOf x x (defArgs st) (defBody st) (defScope st) .none kV dc pm an cd ct), osl⟩) (c : PySem.W.codeIn K cd x = true) (k : PySem.W.keepIn K (.ref f) = true)
    (hb : ∀ (kV doc pm : Value) (an : Option Addr) (cdv ct : Value) (us : List Value), us.length = ps.length → bindArgs (PySem.W.fnOf x x (defArgs st) (defBody st) (defScope st) .none kV doc pm an cdv ct) ⟨us, []⟩ = pure (ps.zip us)) : At K mg x st ps :=
  ⟨f, _, fun_mk (st := st) l c k, PySem.W.mg_of X G a, (fun_mk (st := st) l c k).binds hb⟩
theorem tup_mk {h : Heap} {x : Str} {vs : List V} {t : Addr} {dd : Option Addr} {its : Array Value} {n : Nat} {sl : Array (Option Value)} (X : K.In h) (G : h.Ns mainGlobals mg) (a : PySem.W.nsIn K mainGlobals x = some (some (.ref t))) (l : K.lookup t = some ⟨.type "tuple", dd, .seq its n, sl⟩) (v : Vals vs its.toList) (hz : vs.length ≤ sizeLine) :
    ∃ a, mg x = some (.ref a) ∧ SqT K (fun _ => none) a vs :=
  ⟨t, PySem.W.mg_of X G a, .inr ⟨_, its, n, l, rfl, rfl, by rw [← Array.length_toList, ← v.length]; exact hz, v⟩⟩
end
end Dl

set_option Elab.async false
set_option linter.all false
set_option maxRecDepth 100000
set_option maxHeartbeats 4000000
namespace Dl
open PySem PySem.Spec PyProof.Rows L2 StX
section
variable {F : Fm} {X : Cx} {δ : DE} {k : PyData → Prop} {e a b : Expr} {es : List Expr} {pos p px py : Pos} {x y : Str} {ds : List PyData} {R : Out} {rest : List Stmt} {v : V}
/-- e comes to this very value -/
def VR (F : Fm) (X : Cx) (e : Expr) (δ : DE) (v : V) : Prop := ∀ (σ : L2.St) (H : Hp) (Q : VK), F.ok H → StD X.K F.S H σ δ → (∀ H' : Hp, Xt F.C H H' → F.ok H' → Q v H') → semE X e σ H Q
theorem VR.sc {d : PyData} (h : VR F X e δ v) (hs : scV d = some v) : VD F X e δ d := fun σ H Q o s q => h σ H Q o s fun H' e o' => q v H' d e o' (dn_sc hs) rfl
theorem vr_glob {u : Value} (hm : X.mg x = some u) (r : RelV v u) (hg : Gl X x := by rfl) (hd : (x == ("__debug__" : Str)) = false := by decide) : VR F X (.Name x pos) δ v := fun σ H Q o s q => (pe_glob hg hm r hd).sem (q H (.refl H) o)
/-- a written tuple's name -/
theorem vd_globT {t : Addr} {vs : List V} (hm : X.mg x = some (.ref t)) (hq : SqT X.K (fun _ => none) t vs) (hv : ds.map scV = vs.map some) (hg : Gl X x := by rfl) (hd : (x == ("__debug__" : Str)) = false := by decide) : VD F X (.Name x pos) δ (.tuple ds) := fun σ H Q o s q =>
  (pe_glob (v := .ref t) hg hm rfl hd).sem (q _ H _ (.refl H) o (.tup (.inr hq) (flat_dn ⟨vs, hv, rfl⟩)) rfl)
/-- D[e], D a written dict of texts -/
theorem vr_kd {q : Addr} {z : Str} (ha : VR F X a δ (.ref q)) (hb : VD F X b δ (.str z)) (hk : KDct X.K X.w q z v) (hs : PlainIx b := by intro _ _; rfl) : VR F X (.Subscript a b pos) δ v := fun σ H Q o s qq =>
  (pe_ix ix_kdict (pe_sem X a) (pe_sem X b) hs).sem (ha σ H _ o s fun H1 e1 o1 => hb σ H1 _ o1 (o.all s e1) fun u H2 d e2 o2 n2 kd => by
    subst kd
    exact ⟨q, z, v, rfl, n2.sc rfl, hk, qq H2 (e1.trans e2) o2⟩)
/-- x = e, e this very value -/
theorem vs_asgR (i : Nat) (he : VR F X e δ v) (hr : VS F X rest (δ.set i (some (.raw v))) R) (hN : X.N.Nodup) (hi : X.N[i]? = some x := by rfl) (hx : Loc X.env.scope x := by first | exact Or.inl rfl | exact Or.inr rfl) (hs : swapsWith e (some (.Name x px)) pos.line X.env = pure false := by rfl)
    (hf : X.fn x = true ∨ X.env.scope.names.lookup x = some .local := by first | exact .inl rfl | exact .inr rfl) : VS F X (.Assign [.Name x px] e pos :: rest) δ R :=
  vs_by (ps_set hN hi hx (pe_sem X e) hs hf) fun σ H D o s q => he σ H _ o s fun H1 e1 o1 => hr _ H1 D o1 ((o.all s e1).set (s := .raw v) i rfl) (q.mono e1)
/-- f(e, *xs), f a local name that holds a def -/
theorem pe_callLS {CX : CXT} {k i : Nat} {f : Addr} {fd : FuncData} {ps : List Str} {sp : Sp} {dvs : List V} {dv : List Value} {E : XK} {t : TA} (G : FnOk X.prog X.w X.K X.mg X.base CX k f fd ps sp) (hr : Room k X.A) (hN : X.N[i]? = some x) (hv : Vis X.env.scope x) (hk : PySem.W.keepIn X.K (.ref f) = true) (hb : Binds X.K fd ps dv) (hd : Vals dvs dv) (hx : Passes CX X E) (ha : PA X (e :: es) t)
    (hdb : (x == ("__debug__" : Str)) = false := by decide) (hcd : (x == ("__classdict__" : Str)) = false := by decide)
    (he : starEach (e :: es) X.env = (false, eval e X.env) :: starEach es X.env := by rfl) (hst : (backTo pos (starEach es X.env)).any (·.1) = true := by rfl) : PE X (.Call (.Name x p) (e :: es) [] pos) (tCallL i f sp dvs E t) := by
  refine ⟨fun ps₁ s₁ σ₁ H₁ Q₁ J w₁ => ?_⟩
  have stands := w₁.1
  have rd := (pe_var (pos := p) hN hv hdb hcd).run ps₁ s₁ σ₁ H₁ (fun y K₁ => y = .ref f ∧ K₁ = H₁) J ⟨.ref f, stands, rfl, rfl⟩
  refine wpAny_Call_Name_kw (thn rd fun z s₂ got => ?_)
  obtain ⟨y, K₁, J₂, rz, hy, hK⟩ := got
  subst hy hK
  have ez : z = Value.ref f := rz
  subst ez
  have args := ha.run pos ps₁ s₂ σ₁ _ _ J₂ w₁.2
  exact PySem.W.callWith_S2 (h₀ := X.base) J₂.ok.mod.kin hk (thn args fun us s₃ got2 => by
    obtain ⟨vs, K₂, J₃, rs, hsp⟩ := got2
    exact ⟨J₃.kIn, run_fn G hr hb hd hx J₃ rs hsp⟩) he hst
theorem va_star1 (he : VD F X e δ (.list ds)) (hs : starEach [.Starred e p] X.env = (true, eval e X.env) :: starEach [] X.env := by rfl) : VL F X [.Starred e p] δ ds := fun σ H Q o s q =>
  (pa_star (pe_sem X e) pa_nil hs).sem (he σ H _ o s fun v H1 d e1 o1 n1 kd => by
    subst kd
    cases n1 with
    | lst sq al => exact ⟨_, _, rfl, .inr sq.sq, by show Q (_ ++ []) H1; rw [List.append_nil]; exact q _ H1 _ e1 o1 al rfl⟩)
/-- check(e, *units): check a local name that holds the def named n -/
theorem vd_callLS (i : Nat) {A : List PyData → PyData → Prop} {j n : Nat} {xd : Str} {f : Addr} {z : PyData} {u : Expr} {d : PyData} {pu : Pos} (G : Df X.prog X.w X.K X.mg X.base xd j (spD X.K A)) (hf : X.mg xd = some (.ref f)) (hr : Room n X.A) (hj : j ≤ n) (he : VD F X e δ d) (hu : VD F X u δ (.list ds)) (hA : A (d :: ds) z)
    (hd : δ[i]? = some (some (.raw (.ref f))) := by rfl) (hN : X.N[i]? = some x := by rfl) (hv : Vis X.env.scope x := by first | exact Or.inl rfl | exact Or.inr (Or.inl rfl) | exact Or.inr (Or.inr rfl))
    (hdb : (x == ("__debug__" : Str)) = false := by decide) (hcd : (x == ("__classdict__" : Str)) = false := by decide)
    (hs1 : starEach [e, .Starred u pu] X.env = (false, eval e X.env) :: starEach [.Starred u pu] X.env := by rfl) (hs2 : starEach [.Starred u pu] X.env = (true, eval u X.env) :: starEach [] X.env := by rfl) (hst : (backTo pos (starEach [.Starred u pu] X.env)).any (·.1) = true := by rfl) :
    VD F X (.Call (.Name x p) [e, .Starred u pu] [] pos) δ z := fun σ H Q o s q => by
  obtain ⟨g, fd, ps, G1, G2, G3, G4⟩ := G.ex
  obtain rfl : f = g := by rw [hf] at G2; cases G2; rfl
  refine (pe_callLS (i := i) (dvs := []) G1 (hr.mono hj) hN hv G3 G4 .nil passL (pa_sem X [e, .Starred u pu]) hdb hcd hs1 hst).sem ?_
  obtain ⟨v, h1, h2⟩ := s.at_ i _ hd
  have h2' : v = .ref f := h2
  subst h2'
  refine ⟨h1, (vl_cons he (va_star1 hu hs2) hs1) σ H _ o s fun vs H1 ds' e1 o1 n1 kd => ?_⟩
  subst kd
  show spD X.K A (vs ++ []) H1 Q E0
  rw [List.append_nil]
  exact ⟨F.S, _, z, o1.2, n1, hA, fun v H' e2 n2 => q v H' z (e1.trans (.of0 e2)) (o1.mono e2) n2 rfl⟩
/-- {k1: v1, k2: v2}[e] -/
theorem vd_disp2 {k1 k2 v1 v2 z r : Str} {i1 i2 i3 i4 : Nat} {p1 p2 p3 p4 p5 : Pos} (hu : X.A.units + 1 < cLine) (hb : VD F X b δ (.str z)) (hv : valV (mergeK [] [(Sum.inr k1, V.str v1), (Sum.inr k2, V.str v2)]) (Sum.inr z) = some (.str r)) (hs : NoSl b := by intro _ _; rfl) :
    VD F X (.Subscript (.Dict [some (.Constant (.str k1) i1 p1), some (.Constant (.str k2) i2 p2)] [.Constant (.str v1) i3 p3, .Constant (.str v2) i4 p4] p5) b pos) δ (.str r) := fun σ H Q o s q => by
  refine (pe_dget hu (pe_disp (pps_cons pe_str pe_str (pps_cons pe_str pe_str pps_nil)) rfl rfl (fun z => by cases z) (by simp)) (pe_sem X b) hs).sem ?_
  intro p hp
  refine ⟨upd_same, [(Sum.inr k1, V.str v1), (Sum.inr k2, V.str v2)], rfl, by simp, ?_⟩
  have xt : Xt C0 H (upd (upd H p (.dK [])) p (.dK (mergeK [] [(Sum.inr k1, V.str v1), (Sum.inr k2, V.str v2)]))) := (Xt.new hp).put2 hp
  have o1 := o.mono xt
  refine hb σ _ _ o1 (s.mono (C := C0) (fun _ _ z => z.elim) xt) fun v H2 d e2 o2 n2 kd => ?_
  subst kd
  have hp2 : H2 p = some (.dK (mergeK [] [(Sum.inr k1, V.str v1), (Sum.inr k2, V.str v2)])) := e2.k p _ (fun z => (F.sub p _ z).elim (fun z => o.2 p z hp) fun ⟨_, z⟩ => by cases z) upd_same
  refine ⟨p, .str r, rfl, ?_, q _ H2 _ (xt.of0.trans e2) o2 (.str r) rfl⟩
  have := DGet.k (k := Sum.inr z) hp2
  rw [hv] at this
  obtain rfl : v = .str z := n2.sc rfl
  exact this
end
/-! ### comprehensions without a condition -/
section
variable {F : Fm} {X : Cx} {δ : DE} {pos p px py : Pos} {x y : Str} {ds : List PyData} {R : Out} {rest : List Stmt} {elt iter : Expr} {scope : Scope} {spos : Pos}
/-- [elt for x in iter] -/
theorem vd_lcm (j : Nat) (g : PyData → PyData) (hi : VI F X (.Name x px) iter δ fun xs => xs = ds) (hl : ds.length ≤ 100000)
    (he : ∀ d ∈ ds, ∀ (E : Addr) (s : Shared) (H : Hp) (C : Addr) (cl : List (Str × Addr)) (fp : List Addr), VD (F.more E) (X.blk s H scope (compEnvC scope cl C X.env) fp) elt (δ.set j (some (.dat d))) (g d))
    (hN : X.N.Nodup) (ok : BlkOk X.N X.env.scope scope [(x, j)]) (hg : ∀ (s : Shared) (H : Hp) (C : Addr) (cl : List (Str × Addr)) (fp : List Addr), PG (X.blk s H scope (compEnvC scope cl C X.env) fp) (.Name x px) (gName j))
    (hc : X.calm = true := by rfl) (hs : ∀ x, foldedSetIterable iter X.env x = pure x := by intro _; rfl) (hsf : F.soft := by first | exact Fm.soft_pure | assumption | exact HasRow.soft (by assumption) | exact Fm.soft_more Fm.soft_pure | exact Fm.soft_more (HasRow.soft (by assumption))) : VD F X (.ListComp elt [⟨.Name x px, iter, [], 0⟩] scope pos) δ (.list (ds.map g)) :=
  ve_lc j (fun _ => true) (fun x y => y = g x) (fun σ H R o s h => hi σ H R o s fun J H' ds' e o w kk => by
    subst kk
    exact h J H' ds' e o w ⟨hl, fun _ _ _ _ _ _ _ _ => vts_nil, fun d hd _ => he d hd, fun ys hy => by rw [LcR.det hy, List.filter_eq_self.mpr (fun _ _ => rfl)]⟩) hN ok hg hc hs hsf
/-- y = [elt for x in iter] -/
theorem vs_setLcm (i j : Nat) (g : PyData → PyData) (hi : VI F X (.Name x px) iter δ fun xs => xs = ds) (hl : ds.length ≤ 100000)
    (he : ∀ d ∈ ds, ∀ (E : Addr) (s : Shared) (H : Hp) (C : Addr) (cl : List (Str × Addr)) (fp : List Addr), VD (F.more E) (X.blk s H scope (compEnvC scope cl C X.env) fp) elt (δ.set j (some (.dat d))) (g d))
    (hr : VS F X rest (δ.set i (some (.dat (.list (ds.map g))))) R)
    (hN : X.N.Nodup) (ok : BlkOk X.N X.env.scope scope [(x, j)]) (hg : ∀ (s : Shared) (H : Hp) (C : Addr) (cl : List (Str × Addr)) (fp : List Addr), PG (X.blk s H scope (compEnvC scope cl C X.env) fp) (.Name x px) (gName j))
    (hsw : swapsWith (.ListComp elt [⟨.Name x px, iter, [], 0⟩] scope pos) (some (.Name y py)) spos.line X.env = pure true) (hy : X.N[i]? = some y := by rfl) (hyl : X.env.scope.names.lookup y = some .local := by rfl) (hc : X.calm = true := by rfl) (hs : ∀ x, foldedSetIterable iter X.env x = pure x := by intro _; rfl) (hsf : F.soft := by first | exact Fm.soft_pure | assumption | exact HasRow.soft (by assumption) | exact Fm.soft_more Fm.soft_pure | exact Fm.soft_more (HasRow.soft (by assumption))) :
    VS F X (.Assign [.Name y py] (.ListComp elt [⟨.Name x px, iter, [], 0⟩] scope pos) spos :: rest) δ R :=
  vs_setLc i j (fun _ => true) (fun x y => y = g x) (fun σ H R o s h => hi σ H R o s fun J H' ds' e o w kk => by
    subst kk
    exact h J H' ds' e o w ⟨hl, fun _ _ _ _ _ _ _ _ => vts_nil, fun d hd _ => he d hd, fun ys hy => by rw [LcR.det hy, List.filter_eq_self.mpr (fun _ _ => rfl)]; exact hr⟩) hN ok hg hsw hy hyl hc hs hsf
end
/-! ### a written dict of texts -/
def KdI (K : PySem.W.Frag) (w : World) (q : Addr) : List (Str × Int) → Prop
  | [] => True
  | (z, i) :: r => KDct K w q z (.int i) ∧ KdI K w q r
def KdF (K : PySem.W.Frag) (w : World) (mg : Str → Option Value) (q : Addr) : List (Str × Str) → Prop
  | [] => True
  | (z, n) :: r => (∃ f, mg n = some (.ref f) ∧ KDct K w q z (.ref f)) ∧ KdF K w mg q r
def KeI (K : PySem.W.Frag) (q : Addr) : List (Str × Int) → Prop
  | [] => True
  | (z, i) :: r => (∃ t, PySem.W.nsIn K q z = some (some (.int i t))) ∧ KeI K q r
def KeF (K : PySem.W.Frag) (q : Addr) : List (Str × Str) → Prop
  | [] => True
  | (z, n) :: r => (∃ f, PySem.W.nsIn K mainGlobals n = some (some (.ref f)) ∧ PySem.W.nsIn K q z = some (some (.ref f))) ∧ KeF K q r
section
variable {K : PySem.W.Frag} {w : World} {mg : Str → Option Value} {h : Heap} {x : Str} {q : Addr} {es : Array DictEntry} {n : Nat}
theorem kdI_all (l : K.lookup q = some ⟨.type "dict", none, .dict es n, #[]⟩) (hk : PySem.W.KeysLit w.params es.toList) : ∀ {L : List (Str × Int)}, KeI K q L → KdI K w q L
  | [], _ => trivial
  | (z, i) :: r, ⟨⟨t, e⟩, h⟩ => ⟨⟨es, n, _, l, hk, e, ⟨t, rfl⟩⟩, kdI_all l hk h⟩
theorem KdI.get : ∀ {L : List (Str × Int)} {z : Str} {i : Int}, KdI K w q L → (z, i) ∈ L → KDct K w q z (.int i)
  | (z, i) :: r, _, _, ⟨h, _⟩, .head _ => h
  | _ :: r, _, _, ⟨_, h⟩, .tail _ m => KdI.get h m
theorem KdF.get : ∀ {L : List (Str × Str)} {z n : Str}, KdF K w mg q L → (z, n) ∈ L → ∃ f, mg n = some (.ref f) ∧ KDct K w q z (.ref f)
  | (z, i) :: r, _, _, ⟨h, _⟩, .head _ => h
  | _ :: r, _, _, ⟨_, h⟩, .tail _ m => KdF.get h m
theorem kdI_mk {L : List (Str × Int)} (X : K.In h) (G : h.Ns mainGlobals mg) (a : PySem.W.nsIn K mainGlobals x = some (some (.ref q))) (l : K.lookup q = some ⟨.type "dict", none, .dict es n, #[]⟩) (hk : PySem.W.KeysLit w.params es.toList) (e : KeI K q L) : ∃ a, mg x = some (.ref a) ∧ KdI K w a L :=
  ⟨q, PySem.W.mg_of X G a, kdI_all l hk e⟩
theorem kdF_all (X : K.In h) (G : h.Ns mainGlobals mg) (l : K.lookup q = some ⟨.type "dict", none, .dict es n, #[]⟩) (hk : PySem.W.KeysLit w.params es.toList) : ∀ {L : List (Str × Str)}, KeF K q L → KdF K w mg q L
  | [], _ => trivial
  | (z, i) :: r, ⟨⟨f, e1, e⟩, h⟩ => ⟨⟨f, PySem.W.mg_of X G e1, ⟨es, n, _, l, hk, e, rfl⟩⟩, kdF_all X G l hk h⟩
theorem kdF_mk {L : List (Str × Str)} (X : K.In h) (G : h.Ns mainGlobals mg) (a : PySem.W.nsIn K mainGlobals x = some (some (.ref q))) (l : K.lookup q = some ⟨.type "dict", none, .dict es n, #[]⟩) (hk : PySem.W.KeysLit w.params es.toList) (e : KeF K q L) : ∃ a, mg x = some (.ref a) ∧ KdF K w mg a L :=
  ⟨q, PySem.W.mg_of X G a, kdF_all X G l hk e⟩
end
end Dl

set_option Elab.async false
set_option linter.all false
set_option maxRecDepth 100000
set_option maxHeartbeats 4000000
set_option exponentiation.threshold 5000
namespace Dl
open PySem PySem.Spec PyProof.Rows L2
section
variable {F : Fm} {X : Cx} {δ : DE} {a : Expr} {pos p : Pos} {x : Str}
def rIsq : List V → Hp → VK → Prop := fun vs H Q => ∃ a : Int, vs = [.int a] ∧ 0 ≤ a ∧ a < 2 ^ 1000 ∧ Q (.int (Float64.isqrt a.toNat : Nat)) H
theorem cr_isqrt : CallR X (.builtin "math.isqrt") rIsq := by
  intro pins s σ H vs us Q I r h
  obtain ⟨a, rfl, h0, h1, q⟩ := h
  obtain ⟨t, rfl⟩ : ∃ t, us = [.int a t] := by
    cases r with
    | cons r1 r2 =>
      cases r2
      obtain ⟨t, rfl⟩ := r1
      exact ⟨t, rfl⟩
  have hl : a.toNat.log2 ≤ 999 := PySem.W.mg_log (by
    have : (a.toNat : Int) < ((2 ^ 1000 : Nat) : Int) := by rw [Int.toNat_of_nonneg h0]; exact_mod_cast h1
    exact_mod_cast this)
  exact call_function_meets PySem.W.MGF.kind_isqrt PySem.W.MGF.plain_isqrt PySem.W.MGF.entry_isqrt (PySem.W.MGF.args_isqrt _) (PySem.W.mg_run_isqrt a t (by omega) (by omega) (by omega)).meets ⟨.int _, H, I.tok _, ⟨_, rfl⟩, q⟩
/-- isqrt(e) -/
theorem vd_isqrt {i : Int} (hm : X.mg x = some (.builtin "math.isqrt")) (ha : VD F X a δ (.int i)) (h0 : 0 ≤ i) (h1 : i < 2 ^ 1000) (hg : Gl X x := by rfl) (hd : (x == ("__debug__" : Str)) = false := by decide) (he : starEach [a] X.env = [(false, eval a X.env)] := by rfl) : VD F X (.Call (.Name x p) [a] [] pos) δ (.int (Float64.isqrt i.toNat : Nat)) :=
  ve_cb (pe_callBfun cr_isqrt hg hm (pa_sem X [a]) hd he rfl) (VA.to (vl_cons ha vl_nil he) ⟨_, fun S H vs Q hS n q => by
    cases n with
    | cons n1 n2 =>
      cases n2
      obtain rfl := n1.sc (w := .int i) rfl
      exact ⟨i, rfl, h0, h1, q _ H (.refl H) (.int _)⟩, rfl⟩)
end
end Dl

set_option Elab.async false
set_option linter.all false
set_option maxRecDepth 100000
set_option maxHeartbeats 4000000
namespace Dl
open PySem PySem.Spec PyProof.Rows L2
/-! ### blocks that raise -/
section
variable {F : Fm} {X : Cx} {δ : DE} {k : PyData → Prop} {e : Expr} {pos : Pos} {rest body orelse : List Stmt} {p : Hp → Prop}
/-- the block raises, wherever p holds -/
def VX (F : Fm) (X : Cx) (sts : List Stmt) (δ : DE) (p : Hp → Prop) : Prop := ∀ (σ : L2.St) (H : Hp) (D : Ends), F.ok H → StD X.K F.S H σ δ → (∀ H', Xt F.C H H' → F.ok H' → p H') → semSs X sts D σ H
theorem vx_expr (he : VE F X e δ fun _ => VX F X rest δ p) (hs : swapsWith e none pos.line X.env = pure false := by rfl) : VX F X (.Expr e pos :: rest) δ p := fun σ H D o s q =>
  (pss_cons (ps_expr (pe_sem X e) hs) (pss_sem X rest)).sem (he σ H _ o s fun v H1 d e1 o1 n1 kd => kd σ H1 D o1 (o.all s e1) fun H' e2 o2 => q H' (e1.trans e2) o2)
theorem vx_if {c : Expr} {t : Bool} (hc : VB F X c δ t) (h1 : t = true → VX F X body δ p) (h2 : t = false → VX F X rest δ p) : VX F X (.If c body [] pos :: rest) δ p := fun σ H D o s q =>
  (pss_cons (ps_if (pt_sem X c) (pss_sem X body) (pss_sem X [])) (pss_sem X rest)).sem (hc σ H _ o s fun b H1 e1 o1 kb => by
    subst kb
    cases b with
    | true => exact h1 rfl σ H1 _ o1 (o.all s e1) fun H' e2 o2 => q H' (e1.trans e2) o2
    | false => exact pss_nil.sem (h2 rfl σ H1 _ o1 (o.all s e1) fun H' e2 o2 => q H' (e1.trans e2) o2))
theorem vx_unp {ts : List Expr} {k1 : Nat} {pt : Pos} {is : List Nat} (h : PN X ts is) (he : VE F X e δ fun d => ∃ ds, d = .tuple ds ∧ ds.length = is.length ∧ VX F X rest (setAll δ is ds) p) (hn : (assignEach ts X.env).length = is.length := by rfl) (hc : X.calm = true := by rfl) (hst : (assignEach ts X.env).findIdx? (·.1) = none := by rfl)
    (hs : swapsWithSole [.Tuple ts k1 pt] e pos.line X.env = pure false := by rfl) (hw : swappedStores [.Tuple ts k1 pt] e X.env = pure none := by rfl) (h1 : (assignEach [.Tuple ts k1 pt] X.env).map (·.2) = [assign (.Tuple ts k1 pt) X.env] := by rfl) :
    VX F X (.Assign [.Tuple ts k1 pt] e pos :: rest) δ p := by
  obtain ⟨t, g1, g2⟩ := h.run
  exact fun σ H D o s q => (pss_cons (ps_asg (pe_sem X e) (pg_tup hc g1 hn hst) hs hw h1) (pss_sem X rest)).sem (he σ H _ o s fun v H1 d e1 o1 n1 ⟨ds, ed, hl, kd⟩ => by
    subst ed
    cases n1 with
    | tup sq al => exact ⟨_, _, rfl, sq.sq, by rw [al.length, hl], g2 F δ σ H1 _ ds _ (o.all s e1) al hl fun σ' s' => kd σ' H1 D o1 s' fun H' e2 o2 => q H' (e1.trans e2) o2⟩)
theorem vx_raise {W : WX} {C : Value} (hc : X.calm = true) (tk : Takes X W) (he : PMk X e (fun _ H Q => Q C none H)) (hw : ∀ σ H', p H' → W C none σ H') : VX F X (.Raise (some e) none pos :: rest) δ p := fun σ H D o s q =>
  (pss_cons (ps_raise hc tk he) (pss_sem X rest)).sem (hw _ _ (q H (.refl H) o))
end
/-- an own class of errors without an __init__ -/
structure ExcAt (K : PySem.W.Frag) (mg : Str → Option Value) (x : Str) (C : Addr) : Prop where
  g : mg x = some (.ref C)
  xP : PySem.W.excIn K C [.type "ValueError", .type "Exception", .type "BaseException", .type "object"] "ValueError.__new__" = true
  kP : PySem.W.keepIn K (.ref C) = true
  bP : PySem.W.subIn K (.ref C) (.type "BaseException") = some true
  tP : PySem.W.typeIn K (.ref C) = some (.type "type")
  iP : PySem.W.isClsIn K C = true
/-- the promise of a def that raises C -/
def spX (K : PySem.W.Frag) (C : Addr) (B : List PyData → Prop) : Sp := fun vs H _ E => ∃ (S : AS) (ds : List PyData), (∀ a, S a → H a ≠ none) ∧ DnAll K S H vs ds ∧ B ds ∧ ∀ H', Xt C0 H H' → E (.ref C) none H'
section
variable {P : Program} {w : World} {K : PySem.W.Frag} {mg : Str → Option Value} {base : Heap}
theorem dfx_of {x : Str} {st : Stmt} {ps N : List Str} {B : List PyData → Prop} {k : Nat} {C : Addr} (T : At K mg x st ps) (S : FnScope N ps (defScope st)) (hlen : ∀ ds, B ds → ds.length = ps.length)
    (h : ∀ (f : Addr) (cdv : Value) (A' : Around) (outer : List Env) (s : Shared) (H : Hp) (E : XK) (S' : AS) (ds : List PyData), Room k (A'.deeper (envOfC x (defScope st) s.heap.objs.size f cdv)) → B ds →
      VX (Fm.pure S') (cxOf (L2.CX P w) P w K mg base N x (defScope st) f cdv A' outer s H E) (defBody st) (startD N (ds.map .dat)) (fun H' => E (.ref C) none H')) : Df P w K mg base x (k + 1) (spX K C B) := by
  obtain ⟨f, fd, F, hm, hb⟩ := T.ex
  refine ⟨f, fd, ps, F.okX S ?_ (fun cdv A' outer s H vs Q E hr hs => ?_), hm, F.kp, hb⟩
  · rintro vs H Q E ⟨S', ds, _, hn, hB, _⟩
    rw [hn.length]; exact hlen _ hB
  · obtain ⟨S', ds, hdom, hn, hB, q⟩ := hs
    exact ⟨_, pss_sem _ (defBody st), h f cdv A' outer s H E S' ds hr hB (L2.start N vs) H _ ⟨trivial, hdom⟩ (std_start hn.sl) fun H' e _ => q H' e⟩
/-- raise C('..') -/
theorem vx_own {F : Fm} {X : Cx} {δ : DE} {rest : List Stmt} {pos p1 p2 p3 : Pos} {x m : Str} {j : Nat} {C : Addr} {E : XK} {p : Hp → Prop} (T : ExcAt X.K X.mg x C) (tk : Takes X (fun cls d _ H => E cls d H)) (hw : ∀ H', p H' → E (.ref C) none H') (hc : X.calm = true := by rfl) (hg : Gl X x := by rfl) (hdb : (x == ("__debug__" : Str)) = false := by decide) :
    VX F X (.Raise (some (.Call (.Name x p1) [.Constant (.str m) j p2] [] p3)) none pos :: rest) δ p :=
  vx_raise hc tk (pmk_own PySem.F.excBase_ValueError T.xP T.g T.kP (raises_own T.bP T.tP) hg hdb) fun σ H' h => hw H' h
end
end Dl

set_option Elab.async false
set_option linter.all false
set_option maxRecDepth 100000
set_option maxHeartbeats 4000000
namespace Dl
open PySem PySem.Spec PyProof.Rows L2 LamX
/-- try: a() / except R as e: return isinstance(e, C) / return False -/
def TNm (C : Addr) : (XK → Hp → VK → Prop) → Hp → VK → Prop := fun tl H Q => tl (fun cls d H' => cls = .ref C ∧ d = none ∧ Q (.bl true) H') H (fun _ H' => Q (.bl false) H')
theorem nm_gives {X : Cx} {a e n m q gname : Str} {sg : Scope} {g R C : Addr} {cdg : Value} {j : Nat} {p1 p2 p3 p4 p5 p6 p7 p8 p9 p10 p11 p12 p13 : Pos} (hae : [a, n].Nodup) (hge : sg.names.lookup e = some .globalImplicit) (hme : X.mg e = some (.ref R)) (hde : (e == ("__debug__" : Str)) = false)
    (hgm : sg.names.lookup m = some .globalImplicit) (hmm : X.mg m = some (.ref C)) (hdm : (m == ("__debug__" : Str)) = false) (hgi : sg.names.lookup ("isinstance" : Str) = some .globalImplicit) (hmi : X.mg "isinstance" = none) (hkd : sg.kind = .function)
    (hn : sg.names.lookup n = some .local) (hdn : (n == ("__debug__" : Str)) = false) (hcn : (n == ("__classdict__" : Str)) = false) (hx : PySem.W.exmOne X.K (.ref C) (.ref R) = some true) (hC : ExcC X.K C) (hk : PySem.W.kitOne X.K (.ref C) (.ref C) = some true) :
    GivesTo X [a, n] gname sg g cdg [.Try [.Expr (.Call (.Name a p1) [] [] p2) p3] [.ExceptHandler (some (.Name e p4)) (some n) [.Return (some (.Call (.Name "isinstance" p5) [.Name n p6, .Name m p7] [] p8)) p9] p10] [] [] p11, .Return (some (.Constant (.bool false) j p12)) p13] a q (TNm C) := by
  intro f c' s H Q tl act hc h
  refine ⟨_, pss_cons (ps_try_as (X := (cxOf C8.CX0 X.prog X.w X.K X.mg X.base [a, n] gname sg g cdg X.A X.stack s H C8.E0).nox) (i := 1) (c := .ref R)
      (tb := fun W D σ H => ∃ Ech : XK, (∀ cls d σ' H', Ech cls d H' → W cls d σ' H') ∧ σ[0]? = some (some (.ref f)) ∧ H c' = some (CodeO c' q) ∧ tl Ech H (fun _ H' => D.nx σ H'))
      (ts := fun a cls d D σ H => cls = .ref C ∧ d = none ∧ (∃ σ0, σ = List.set σ0 1 (some (.ref a))) ∧ D.rt (.bl true) H)
      rfl rfl hae rfl ?_ ⟨hge, hde, .inl hme⟩ L2.takes0 (fun W pn xe tk _ => ?_) (fun x oe cls d pn hz hf => ?_)) (pss_one (ps_ret pe_bl)), ?_⟩
  · exact hn
  · refine ⟨fun pn₂ sh τ K₂ D₂ J w₂ => ?_⟩
    obtain ⟨E₂, leads, slot, code, told⟩ := w₂
    exact (pss_one (ps_expr (pos := p3) (act W pn xe E₂ p1 p2 tk leads))).run pn₂ sh τ K₂ D₂ J ⟨slot, code, told⟩
  · refine ⟨fun pins s' σ H' D I held => ?_⟩
    obtain ⟨rfl, rfl, ⟨σ0, rfl⟩, h2⟩ := held
    have h1 : (List.set σ0 1 (some (V.ref x)))[1]? = some (some (V.ref x)) := by
      have hl : (List.set σ0 1 (some (V.ref x))).length = 2 := I.len
      rw [List.length_set] at hl
      rw [List.getElem?_set_self (by omega)]
    exact (pss_one (ps_ret (pe_callB (call_isE (X := (cxOf C8.CX0 X.prog X.w X.K X.mg X.base [a, n] gname sg g cdg X.A X.stack s H C8.E0).nox) (a := x) (pn := pn) hC hz hf) hgi hmi (by decide +kernel) (pa_cons (pe_var (i := 1) rfl (.inl hn) hdn hcn) (pa_cons (pe_glob (v := .ref C) hgm hmm rfl hdm) pa_nil)) (by decide) (by decide)))).run pins s' _ H' D I ⟨_, h1, .ref C, .ref C, true, rfl, fun u r => r, hk, h2⟩
  · refine ⟨fun cls d H' => cls = .ref C ∧ d = none ∧ Q (.bl true) H', fun cls d σ' H' ⟨e1, e0, e2⟩ => ?_, rfl, hc, h⟩
    subst e1
    exact ⟨true, hx, fun _ a ha => ⟨rfl, e0, ⟨_, rfl⟩, e2⟩, fun z => by cases z⟩
end Dl

set_option Elab.async false
set_option linter.all false
set_option maxRecDepth 100000
set_option maxHeartbeats 4000000
namespace Dl
open PySem PySem.Spec PyProof.Rows L2 LamX
/-! ### a frame that knows a table of code objects -/
theorem co_list {c : Addr} {q : Str} (xs : List V) : CodeO c q ≠ .lst xs := fun z => by unfold CodeO at z; cases z
theorem tabS_keep {H H' : Hp} {P : Addr} {q : Str} (e : ∀ b o, (∀ xs, o ≠ HO.lst xs) → H b = some o → H' b = some o) (t : TabS H P q) : TabS H' P q := by
  obtain ⟨ps, h1, h2, h3⟩ := t
  exact ⟨ps, e _ _ (fun _ z => by cases z) h1, h2, fun pos cv hc => let ⟨c, e1, e2⟩ := h3 pos cv hc; ⟨c, e1, e _ _ co_list e2⟩⟩
structure HasTab (F : Fm) (P : Addr) (q : Str) : Prop where
  t : ∀ a o, Tb o → F.C a o
  d : ∀ H, F.J H → ∀ a, F.S a → ∃ o, H a = some o ∧ ¬ Tb o
  ok : ∀ H, F.J H → TabS H P q
  back : ∀ H H1, ExtN H H1 → TabS H1 P q → F.J H → F.J H1
def Fm.rowT (K : PySem.W.Frag) (S : AS) (r scr : Addr) (hr : S r) (P : Addr) (q : Str) : Fm := ⟨S, fun a o => a = r ∨ Tb o, fun H => RowOk K S r scr H ∧ TabS H P q ∧ ∀ a, S a → ∃ o, H a = some o ∧ ¬ Tb o,
  fun a o z => z.imp (fun z => by subst z; exact hr) id, fun H H' e h => ⟨h.1.same hr fun a o _ q => e.k a o (fun z => z) q, h.2.1.ext fun b o x => e.k b o (fun z => z) x, fun a s => let ⟨o, h1, h2⟩ := h.2.2 a s; ⟨o, e.k a o (fun z => z) h1, h2⟩⟩⟩
theorem hasRowT {K : PySem.W.Frag} {S : AS} {r scr P : Addr} {q : Str} {hr : S r} : HasRow (Fm.rowT K S r scr hr P q) K r := ⟨hr, fun _ => .inl rfl,
  fun H H' e h => ⟨h.1.same hr fun a o s => e a o (.inl s), tabS_keep (fun b o n => e b o (.inr n)) h.2.1, fun a s => let ⟨o, h1, h2⟩ := h.2.2 a s; ⟨o, e a o (.inl s) h1, h2⟩⟩,
  fun H h => ⟨scr, h.1, fun H' e h' => by
    obtain ⟨i, s, c, _, _, _, _, hrow⟩ := h.1.row
    obtain ⟨i', s', c', _, _, _, _, hrow'⟩ := h'.row
    refine ⟨h', tabS_keep (fun b o n x => e.k b o (fun z => ?_) x) h.2.1, fun a sa => ?_⟩
    · subst z
      rw [hrow] at x
      exact n _ (Option.some.inj x).symm
    · by_cases z : a = r
      · subst z
        exact ⟨_, hrow', nTl⟩
      · obtain ⟨o, h1, h2⟩ := h.2.2 a sa
        exact ⟨o, e.k a o z h1, h2⟩⟩⟩
theorem hasTabT {K : PySem.W.Frag} {S : AS} {r scr P : Addr} {q : Str} {hr : S r} : HasTab (Fm.rowT K S r scr hr P q) P q := ⟨fun a o z => .inr z, fun H h => h.2.2, fun H h => h.2.1, fun H H1 e t h => by
  have kp : ∀ a o, S a → H a = some o → H1 a = some o := fun a o s x => by
    obtain ⟨u, h1, h2⟩ := h.2.2 a s
    rw [x] at h1
    cases h1
    exact e a o x fun ps z => h2 ⟨ps, z⟩
  exact ⟨h.1.same hr kp, t, fun a s => let ⟨o, h1, h2⟩ := h.2.2 a s; ⟨o, kp a o s h1, h2⟩⟩⟩
theorem hasTab_more {F : Fm} {P D : Addr} {q : Str} (h : HasTab F P q) (hd : ∀ H, F.J H → ∃ o, H D = some o ∧ ¬ Tb o) : HasTab (F.more D) P q := ⟨h.t, fun H j a s => by
  rcases s with s | s
  · exact h.d H j a s
  · subst s; exact hd H j, h.ok, h.back⟩
section
variable {F : Fm} {X : Cx} {δ : DE} {k : PyData → Prop}
/-- f(lambda: body), f one that runs it -/
theorem ve_lam {TT : (XK → Hp → VK → Prop) → Hp → VK → Prop} {x a : Str} {g c P : Addr} {j n : Nat} {pg : Arguments} {bg : List Stmt} {sg : Scope} {dV kV doc pm cdv ct oc : Value} {an od : Option Addr} {osl : Array (Option Value)} {Ng : List Str}
    {params : Arguments} {body : Expr} {scope : Scope} {t : XK → TE} {p lpos pos : Pos} (hT : HasTab F P (X.env.qual ++ "<lambda>")) (TB : TabB X.base X.mg c P) (hcode : X.env.code = .ref c) (hr : Room n X.A) (hj : j + 2 ≤ n) (L : LamS X.env.scope scope)
    (hm : X.mg x = some (.ref g)) (hk : PySem.W.keepIn X.K (.ref g) = true) (lk : X.K.lookup g = some ⟨oc, od, .func (PySem.W.fnOf x x pg bg sg dV kV doc pm an cdv ct), osl⟩) (hcg : PySem.W.codeIn X.K cdv x = true)
    (hb : L2.Binds X.K (PySem.W.fnOf x x pg bg sg dV kV doc pm an cdv ct) [a] []) (Sg : FnScope Ng [a] sg) (hNg : Ng[0]? = some a) (hva : Vis sg a) (hG : GivesTo X Ng x sg g cdv bg a (X.env.qual ++ "<lambda>") TT)
    (hbody : ∀ (A : Around) (outer : List Env) (s : Shared) (H : Hp) (E : XK) (f c' : Addr), Room j (A.deeper (lamEnv X scope s.heap.objs.size f c')) → PE (lamCx X A outer s H E scope f c') body (t E))
    (hdo : ∀ (σ : L2.St) (H : Hp) (Q : VK), F.ok H → StD X.K F.S H σ δ → (∀ (v : V) (H' : Hp) (d : PyData), Xt F.C H H' → F.ok H' → Dn X.K F.S H' v d → k d → Q v H') → TT (fun E H' Q' => t E σ H' Q') H Q)
    (hdef : defaultsOf params X.env = ([], []) := by rfl) (hbind : ∀ (q : Str) (cl : List (Str × Addr)) (pm cv ctv : Value), bindArgs (PySem.W.kla_fn "<lambda>" q params body scope cl pm cv ctv) ⟨[], []⟩ = pure [] := by intros; rfl)
    (hg : Gl X x := by rfl) (hdb : (x == ("__debug__" : Str)) = false := by decide) (hd : (a == ("__debug__" : Str)) = false := by decide) (hcd : (a == ("__classdict__" : Str)) = false := by decide) :
    VE F X (.Call (.Name x p) [.Lambda params body scope lpos] [] pos) δ k := fun σ H Q o s q => by
  refine (pe_lamcall (T := [(P, X.env.qual ++ "<lambda>")]) hg hm hk lk hcg hb Sg hNg hva hG TB hcode (.head _) (fun z hz e => ?_) (hr.mono hj) L hdef hbind hbody hdb hd hcd).sem ?_
  · rcases List.mem_singleton.mp hz with rfl
    rfl
  · refine ⟨fun z hz => ?_, fun H1 eN T1 => ?_⟩
    · rcases List.mem_singleton.mp hz with rfl
      exact hT.ok H o.1
    · have j1 : F.J H1 := hT.back H H1 eN (T1 _ (.head _)) o.1
      have e1 : Xt F.C H H1 := ⟨fun b u nc x => eN b u x fun ps z => nc (hT.t b u ⟨ps, z⟩)⟩
      have o1 : F.ok H1 := ⟨j1, fun b sb z => by
        obtain ⟨u, h1, _⟩ := hT.d H1 j1 b sb
        rw [h1] at z; cases z⟩
      exact hdo σ H1 Q o1 (o.all s e1) fun v H' d e2 => q v H' d (e1.trans e2)
end
/-! ### a law whose lambdas are made of its own code -/
section
variable {P : Program} {w : World} {K : PySem.W.Frag} {mg : Str → Option Value} {base : Heap}
def spLawT (K : PySem.W.Frag) (T : Addr) : Sp := fun vs H Q _ => ∃ (a : Addr) (ns : List Int), vs = [.ref a] ∧ SqL K H a (ns.map V.int) ∧ ns.length ≤ 63 ∧ H T = some (.tbl #[]) ∧ ∀ H', Q (.bl true) H'
theorem lawT_of {st : Stmt} {N : List Str} {k : Nat} {c : Int} {f T c₁ : Addr} {fd : FuncData} {q : Str} {rest : List Stmt} {p1 p2 p3 p4 p5 p6 p7 : Pos} {j1 j2 j3} (Fu : Fun K "law" "law" st f fd) (S : FnScope N ["script"] (defScope st)) (hc : fd.code = .ref c₁) (c0 : 0 ≤ c) (c1 : c < 2147483647)
    (hbody : defBody st = .Assign [.Name "row" p1] (.List [.Name "script" p2, .Constant (.int 0) j1 p3, .Constant (.int c) j2 p4, .Constant (.int 0) j3 p5] p6) p7 :: rest) (h0 : N[0]? = some (("script" : Str))) (h1 : N[1]? = some ("row" : Str)) (hv0 : (defScope st).names.lookup ("script" : Str) = some .local) (hv1 : (defScope st).names.lookup ("row" : Str) = some .local ∨ (defScope st).names.lookup ("row" : Str) = some .cell)
    (h : ∀ (f : Addr) (A' : Around) (outer : List Env) (s : Shared) (H : Hp) (E : XK) (F : Fm) (r a : Addr), Room k (A'.deeper (envOfC "law" (defScope st) s.heap.objs.size f (.ref c₁))) → HasRow F K r → HasTab F T q →
      VS F (cxOf CX0 P w K mg base N "law" (defScope st) f (.ref c₁) A' outer s H E).nox rest ((startD N [.raw (.ref a)]).set 1 (some (.raw (.ref r)))) { nx := fun _ => False, rt := fun y => y = .bool true })
    (hsw : ∀ (X : Cx), swapsWith (.List [.Name "script" p2, .Constant (.int 0) j1 p3, .Constant (.int c) j2 p4, .Constant (.int 0) j3 p5] p6) (some (.Name "row" p1)) p7.line X.env = pure false) (hst : ∀ (X : Cx), X.env.scope = defScope st → starEach [.Name "script" p2, .Constant (.int 0) j1 p3, .Constant (.int c) j2 p4, .Constant (.int 0) j3 p5] X.env = (false, eval (.Name "script" p2) X.env) :: starEach [.Constant (.int 0) j1 p3, .Constant (.int c) j2 p4, .Constant (.int 0) j3 p5] X.env) :
    FnOk P w K mg base CX0 (k + 1) f fd ["script"] (spLawT K T) := by
  obtain ⟨oc, od, kV, doc, pm, an, cdv, ct, osl, rfl, lk, hcd⟩ := Fu.ex
  obtain rfl : cdv = .ref c₁ := hc
  refine fn_of lk hcd S ?_ fun A' outer s H vs Q E hr hs => ?_
  · rintro vs H Q E ⟨a, ns, rfl, _⟩; rfl
  · obtain ⟨a, ns, rfl, hsq, hl, hT, hq⟩ := hs
    suffices hh : ∃ t, PSs (cxOf CX0 P w K mg base N "law" (defScope st) f (.ref c₁) A' outer s H E).nox (defBody st) t ∧ t { nx := fun _ H' => Q .non H', rt := Q } (L2.start N [.ref a]) H by
      obtain ⟨t, z1, z2⟩ := hh
      exact ⟨t, z1.nox, z2⟩
    rw [hbody]
    generalize hX : (cxOf CX0 P w K mg base N "law" (defScope st) f (.ref c₁) A' outer s H E).nox = X
    have hXN : X.N = N := by subst hX; rfl
    have hXs : X.env.scope = defScope st := by subst hX; rfl
    have hXfn : X.fn "row" = true := by subst hX; rfl
    have nd : X.N.Nodup := by rw [hXN]; exact S.nd
    refine ⟨_, pss_cons (ps_set (i := 1) nd (by rw [hXN]; exact h1) (by unfold L2.Loc; rw [hXs]; exact hv1) (pe_lst (pa_cons (pe_var (i := 0) (by rw [hXN]; exact h0) (.inl (by rw [hXs]; exact hv0))) (pa_cons pe_int (pa_cons pe_int (pa_cons pe_int pa_nil))) (hst X hXs))) (hsw X) (.inl hXfn)) (pss_sem X rest), ?_⟩
    refine ⟨_, rfl, by show 4 ≤ sizeLine; decide, fun p hp => ?_⟩
    have ne : ∀ u, H a = some u → a ≠ p := fun u e z => by rw [z, hp] at e; cases e
    have xt : Xt C0 H (upd H p (.lst [.ref a, .int 0, .int c, .int 0])) := .new hp
    have hS : (fun b => b = p ∨ (b = a ∧ Rd H a (.lst (ns.map V.int)))) p := .inl rfl
    have row : RowOk K (fun b => b = p ∨ (b = a ∧ Rd H a (.lst (ns.map V.int)))) p a (upd H p (.lst [.ref a, .int 0, .int c, .int 0])) := by
      refine ⟨⟨0, c, 0, by decide, c0, c1, by decide, upd_same⟩, ns, hl, ?_⟩
      rcases hsq with h | h
      · refine .inl ⟨.inr ⟨rfl, h⟩, fun z => ?_, rd_mono xt (fun _ _ z => z) nTl h⟩
        exact rd_some h (z ▸ hp)
      · exact .inr (.inr h)
    have stand : ∀ b, (b = p ∨ (b = a ∧ Rd H a (.lst (ns.map V.int)))) → ∃ o, upd H p (.lst [.ref a, .int 0, .int c, .int 0]) b = some o ∧ ¬ Tb o := fun b hb => by
      by_cases e : b = p
      · subst e; exact ⟨_, upd_same, nTl⟩
      · rcases hb with hb | ⟨rfl, hb⟩
        · exact absurd hb e
        · rw [upd_ne e]
          rcases hb with z | ⟨o, z⟩
          · exact ⟨_, z, nTl⟩
          · exact ⟨_, z, fun ⟨_, z⟩ => by cases z⟩
    have hbod := h f A' outer s H E (Fm.rowT K (fun b => b = p ∨ (b = a ∧ Rd H a (.lst (ns.map V.int)))) p a hS T q) p a hr hasRowT hasTabT
    rw [hX] at hbod
    have ok : (Fm.rowT K (fun b => b = p ∨ (b = a ∧ Rd H a (.lst (ns.map V.int)))) p a hS T q).ok (upd H p (.lst [.ref a, .int 0, .int c, .int 0])) := ⟨⟨row, (TabS.nil hT).ext fun b o x => xt.k b o (fun z => z) x, stand⟩, fun b hb => by
      rcases hb with rfl | ⟨rfl, hb⟩
      · rw [upd_same]; exact fun z => by cases z
      · by_cases e : b = p
        · subst e; exact absurd hp (rd_some hb)
        · rw [upd_ne e]; exact rd_some hb⟩
    have sd : StD X.K (Fm.rowT K (fun b => b = p ∨ (b = a ∧ Rd H a (.lst (ns.map V.int)))) p a hS T q).S (upd H p (.lst [.ref a, .int 0, .int c, .int 0])) ((L2.start N [.ref a]).set 1 (some (.ref p))) ((startD N [.raw (.ref a)]).set 1 (some (.raw (.ref p)))) :=
      (std_start (ss := [.raw (.ref a)]) (.cons rfl .nil)).set (s := .raw (.ref p)) 1 rfl
    exact hbod _ _ _ ok sd ⟨fun _ _ _ _ _ _ z => z.elim, fun _ _ _ _ _ _ z => z.elim, fun _ _ _ _ _ _ z => z.elim, fun v H' d _ _ n hd => by
      subst hd
      cases n
      exact hq _⟩
end
end Dl

set_option Elab.async false
set_option linter.all false
set_option maxRecDepth 100000
set_option maxHeartbeats 4000000
namespace Dl
open PySem PySem.Spec PyProof.Rows L2 LamX
/-! ### the end of a law whose lambdas are made of its own code -/
theorem walk_own {l : PySem.W.OpenLaw} {n k : Nat} {q : Program} {loose : List Str} {XP : (Str → Option Value) → Heap → Prop} {YP : World → Heap → Prop} {d e : DefRec} {K : Params → PySem.W.Frag} {c T : Addr}
    (hn : l.most = some n) (hn2 : n ≤ 63) (hdf : d.params.defaults = []) (hr : Room k callerA) (hY : ∀ (w : World) (h : Heap), YP w h → (K w.params).In h)
    (hd : (recsOf q).find? (fun e => e.name == d.name) = some e) (ht : ∀ w : World, PySem.W.tabIn (K w.params) d.name = some (c, T)) (nT : ∀ w : World, (K w.params).lookup T = none)
    (F : ∀ (w : World) (mg : Str → Option Value) (fa : Addr) (h : Heap), (K w.params).In h → h.Ns mainGlobals mg → mg d.name = some (.ref fa) →
      ∃ fd : FuncData, (∀ (s : Shared) (u : Value), BindsTo s fd ⟨[u], []⟩ [("script", u)]) ∧ ∀ base : Heap, (K w.params).In base → base.Ns mainGlobals mg → TabB base mg c T → FnOk l.prog w (K w.params) mg base CX0 k fa fd ["script"] (spLawT (K w.params) T)) :
    PySem.W.WalkO q loose XP YP l.row.toRowW d [] (fun f vs => PySem.call f vs) := by
  refine Att.attach_callB hn hdf fun w s₀ s₁ mg mb fa o pm cd doc a vs ns G Y ho hod hcd hmg hobj hints hlen hbits hg => ?_
  have KX := hY w _ Y
  obtain ⟨g1, g2⟩ := PySem.W.tab_of G.T KX hd (ht w)
  obtain ⟨fd, hb, hF⟩ := F w mg fa _ KX G.T.g hmg
  have one : ∀ p ∈ [(c, T)], p = (c, T) := fun p hp => List.mem_singleton.mp hp
  exact law_callTs (cs := [(c, T)]) KX G.T.g G.T.b G.T.builtins G.T.nolimit hg (fun p hp => by rw [one p hp]; exact g2) (fun p hp => by rw [one p hp]; exact nT w) (fun p hp => by rw [one p hp]; exact g1) G.T.bmain hobj hints
    (Nat.le_trans hlen (Nat.le_trans hn2 (by decide))) hr (fun base h1 h2 h3 => hF base h1 h2 (h3 _ (.head _))) hb (fun H hH hS => ⟨a, ns, rfl, hS, Nat.le_trans hlen hn2, hH _ (.head _), fun _ => rfl⟩) fun _ _ _ h => h
/-! ### lambda: f(a, b, ..) of names that hold data, f one that raises -/
def tVs : List Nat → TA
  | [] => tNil
  | i :: is => tCons (tVar i) (tVs is)
def Gets (δ : DE) : List Nat → List PyData → Prop
  | [], [] => True
  | i :: is, d :: ds => δ[i]? = some (some (.dat d)) ∧ Gets δ is ds
  | _, _ => False
theorem tVs_of {K : PySem.W.Frag} {S : AS} {H : Hp} {σ : L2.St} {δ : DE} (s : StD K S H σ δ) : ∀ {is : List Nat} {ds : List PyData} {Q : List V → Hp → Prop}, Gets δ is ds → (∀ vs, DnAll K S H vs ds → Q vs H) → tVs is σ H Q
  | [], [], _, _, q => q [] .nil
  | i :: is, d :: ds, _, ⟨h, g⟩, q => by
    obtain ⟨v, h1, h2⟩ := s.at_ i _ h
    exact ⟨v, h1, tVs_of s g fun vs n => q (v :: vs) (.cons h2 n)⟩
  | [], _ :: _, _, h, _ => h.elim
  | _ :: _, [], _, h, _ => h.elim
/-- an own class of errors, a class above it that is caught -/
structure Err2 (K : PySem.W.Frag) (mg : Str → Option Value) (x r : Str) (C R : Addr) : Prop where
  a : ExcAt K mg x C
  r : mg r = some (.ref R)
  e : PySem.W.exmOne K (.ref C) (.ref R) = some true
  c : ExcC K C
  k : PySem.W.kitOne K (.ref C) (.ref C) = some true
theorem err2_of {K : PySem.W.Frag} {mg : Str → Option Value} {x r : Str} {C R : Addr} (a : ExcAt K mg x C) (g : mg r = some (.ref R)) (b1 : PySem.W.subIn K (.ref R) (.type "BaseException") = some true) (t1 : PySem.W.typeIn K (.ref R) = some (.type "type"))
    (i1 : PySem.W.isClsIn K R = true) (s1 : PySem.W.subIn K (.ref C) (.ref R) = some true) (c : ExcC K C) : Err2 K mg x r C R := ⟨a, g, by
  have i2 : (PySem.W.clsIn K R).isSome = true := i1
  unfold PySem.W.exmOne
  rw [b1, if_pos (by decide)]
  unfold PySem.W.kitCls
  show (if ((PySem.W.clsIn K R).isSome && PySem.W.typeIn K (.ref R) == some (.type "type")) = true then _ else _) = _
  rw [i2, t1, if_pos (by decide)]
  exact s1, c, by
  unfold PySem.W.kitOne
  rw [if_pos (by simp)]⟩
theorem tabIn_of {K : PySem.W.Frag} {x : Str} {f c T : Addr} {oc oc2 : Value} {od od2 : Option Addr} {sl sl2 : Array (Option Value)} {fd : FuncData} {vs : Array Value} (h1 : PySem.W.nsIn K mainGlobals x = some (some (.ref f))) (h2 : K.lookup f = some ⟨oc, od, .func fd, sl⟩) (h3 : fd.code = .ref c)
    (h4 : K.lookup c = some ⟨oc2, od2, .fields vs, sl2⟩) (h5 : vs[11]? = some (.ref T)) : PySem.W.tabIn K x = some (c, T) := by
  unfold PySem.W.tabIn
  rw [h1]
  show (match K.lookup f with | some ⟨_, _, .func fd, _⟩ => _ | _ => none) = _
  rw [h2]
  show (match fd.code with | .ref c => _ | _ => none) = _
  rw [h3]
  show (match K.lookup c with | some ⟨_, _, .fields vs, _⟩ => _ | _ => none) = _
  rw [h4]
  show (match (vs[11]? : Option Value) with | some (.ref P) => some (c, P) | _ => none) = _
  rw [h5]
section
variable {F : Fm} {X : Cx} {δ : DE}
theorem vd_nm {B : List PyData → Prop} {ds : List PyData} (is : List Nat) {x fx a e n m : Str} {st : Stmt} {C R c P : Addr} {j1 j nn : Nat} {ee : Expr} {es : List Expr} {params : Arguments} {sc scope : Scope} {p lpos pos q1 q2 p1 p2 p3 p4 p5 p6 p7 p8 p9 p10 p11 p12 p13 : Pos}
    (hT : HasTab F P (X.env.qual ++ "<lambda>")) (TB : TabB X.base X.mg c P) (hcode : X.env.code = .ref c) (hr : Room nn X.A) (hj : j + 2 ≤ nn) (hsc : X.env.scope = sc) (L : lamSB sc scope = true) (er : Err2 X.K X.mg m e C R)
    (T : At X.K X.mg x st [a]) (Sg : FnScope [a, n] [a] (defScope st)) (hmi : X.mg "isinstance" = none) (Gx : Df X.prog X.w X.K X.mg X.base fx j (spX X.K C B)) (hB : B ds) (gets : Gets δ is ds)
    (hargs : ∀ (A : Around) (outer : List Env) (s : Shared) (H : Hp) (E : XK) (f c' : Addr), PA (lamCx X A outer s H E scope f c') (ee :: es) (tVs is))
    (hbody : defBody st = [.Try [.Expr (.Call (.Name a p1) [] [] p2) p3] [.ExceptHandler (some (.Name e p4)) (some n) [.Return (some (.Call (.Name "isinstance" p5) [.Name n p6, .Name m p7] [] p8)) p9] p10] [] [] p11, .Return (some (.Constant (.bool false) j1 p12)) p13] := by rfl)
    (hdb : (x == ("__debug__" : Str)) = false := by decide) (hd : (a == ("__debug__" : Str)) = false := by decide) (hcd : (a == ("__classdict__" : Str)) = false := by decide)
    (hae : [a, n].Nodup := by decide) (hge : (defScope st).names.lookup e = some .globalImplicit := by rfl) (hde : (e == ("__debug__" : Str)) = false := by decide) (hgm : (defScope st).names.lookup m = some .globalImplicit := by rfl) (hdm : (m == ("__debug__" : Str)) = false := by decide)
    (hgi : (defScope st).names.lookup ("isinstance" : Str) = some .globalImplicit := by rfl) (hkd : (defScope st).kind = .function := by rfl) (hn : (defScope st).names.lookup n = some .local := by rfl) (hdn : (n == ("__debug__" : Str)) = false := by decide) (hcn : (n == ("__classdict__" : Str)) = false := by decide)
    (hva : Vis (defScope st) a := by first | exact Or.inl rfl | exact Or.inr (Or.inl rfl)) (hg : Gl X x := by rfl) (hgf : scope.names.lookup fx = some .globalImplicit := by rfl) (hdf : (fx == ("__debug__" : Str)) = false := by decide)
    (hdef : defaultsOf params X.env = ([], []) := by rfl) (hbind : ∀ (q : Str) (cl : List (Str × Addr)) (pm cv ctv : Value), bindArgs (PySem.W.kla_fn "<lambda>" q params (.Call (.Name fx q1) (ee :: es) [] q2) scope cl pm cv ctv) ⟨[], []⟩ = pure [] := by intros; rfl)
    (he : ∀ (env : Env), env.scope = scope → starEach (ee :: es) env = (false, eval ee env) :: starEach es env := by intros; rfl) (hpl : ∀ (env : Env), env.scope = scope → (backTo q2 (starEach es env)).any (·.1) = false := by intros; rfl) :
    VD F X (.Call (.Name x p) [.Lambda params (.Call (.Name fx q1) (ee :: es) [] q2) scope lpos] [] pos) δ (.bool true) := by
  obtain ⟨g, fd, Fu, hm, hb⟩ := T.ex
  obtain ⟨oc, od, kV, doc, pm, an, cdv, ct, osl, rfl, lk, hcg⟩ := Fu.ex
  obtain ⟨f, fd2, ps2, G1, G2, G3, G4⟩ := Gx.ex
  rw [hbody] at lk hb
  refine ve_lam (TT := TNm C) (t := fun E => tCall (spX X.K C B) [] E (tVs is)) (j := j) (Ng := [a, n]) hT TB hcode hr hj (lamS_by (by rw [hsc]; exact L)) hm Fu.kp lk hcg hb Sg rfl hva
    (nm_gives hae hge er.r hde hgm er.a.g hdm hgi hmi hkd hn hdn hcn er.e er.c er.k) (fun A outer s H E f' c' hr' => ?_) (fun σ H Q o s q => ?_) hdef hbind hg hdb hd hcd
  · exact pe_call (X := lamCx X A outer s H E scope f' c') (CX := L2.CX X.prog X.w) G1 hr' hgf G2 G3 G4 .nil (passes_call (takes_of rfl rfl rfl rfl) fun cls d σ H h => h) (hargs A outer s H E f' c') hdf (he _ rfl) (hpl _ rfl)
  · refine tVs_of s gets fun vs nv => ?_
    show spX X.K C B (vs ++ []) H _ _
    rw [List.append_nil]
    exact ⟨F.S, ds, o.2, nv, hB, fun H' e' => ⟨rfl, rfl, q (.bl true) H' (.bool true) e'.of0 (o.mono e') (.bl true) rfl⟩⟩
end
end Dl

set_option Elab.async false
set_option linter.all false
set_option maxRecDepth 100000
/-! Fx: formats as plain Lean, and their data -/
namespace Fx
open PySem
inductive Mode | even | away | down | up | zero
  deriving DecidableEq
def Mode.s : Mode → Str
  | .even => "even" | .away => "away" | .down => "down" | .up => "up" | .zero => "zero"
def tinyS (g : Bool) : Str := if g then "gradual" else "flush"
def hugeS (f : Bool) : Str := if f then "infinite" else "largest"
structure Form where
  p : Nat
  low : Int
  e : Nat
  mode : Mode
  g : Bool
  inf : Bool
structure Form.Ok (f : Form) : Prop where
  p4 : 4 ≤ f.p
  p10 : f.p ≤ 10
  e20 : f.e ≤ 20
  lo : -40 ≤ f.low
  hi : f.low + f.e ≤ 40
def encF (f : Form) : PyData := .tuple [.int f.p, .int f.low, .int (f.low + f.e), .str f.mode.s, .str (tinyS f.g), .str (hugeS f.inf)]
/-- the least positive normal number, the greatest number, in units -/
def nrm (f : Form) : Int := 2 ^ (f.p - 1)
def top (f : Form) : Int := (2 ^ f.p - 1) * 2 ^ f.e
end Fx

set_option Elab.async false
set_option linter.all false
set_option maxRecDepth 100000
/-! Fx: numbers and roundings as plain Lean -/
namespace Fx
open PySem
inductive Res | fin (i : Int) | pinf | ninf
  deriving DecidableEq
def encR : Res → PyData
  | .fin i => .int i
  | .pinf => .str "inf"
  | .ninf => .str "-inf"
/-- bits of a natural number -/
def bln (n : Nat) : Nat := if n = 0 then 0 else n.log2 + 1
theorem bits_bln (i : Int) : Builtin.Int.intBits i = bln i.natAbs := by
  unfold Builtin.Int.intBits bln
  by_cases h : i = 0
  · subst h; rfl
  · have h1 : i.natAbs ≠ 0 := by omega
    simp [h, h1]
theorem bln_lt (n : Nat) : n < 2 ^ bln n := by
  unfold bln
  split
  · omega
  · exact Nat.lt_log2_self
theorem bln_le {n : Nat} (h : n ≠ 0) : 2 ^ (bln n - 1) ≤ n := by
  unfold bln
  rw [if_neg h]
  exact Nat.log2_self_le h
theorem bln_le_of {n k : Nat} (h : n < 2 ^ k) : bln n ≤ k := by
  by_cases h0 : n = 0
  · subst h0; exact Nat.zero_le _
  · have h1 := bln_le h0
    have h2 : bln n - 1 < k := (Nat.pow_lt_pow_iff_right (by decide : 1 < 2)).mp (Nat.lt_of_le_of_lt h1 h)
    have : bln n ≠ 0 := by unfold bln; rw [if_neg h0]; omega
    omega
theorem le_bln {n k : Nat} (h : 2 ^ k ≤ n) : k + 1 ≤ bln n := by
  have h1 := Nat.lt_of_le_of_lt h (bln_lt n)
  exact (Nat.pow_lt_pow_iff_right (by decide : 1 < 2)).mp h1
theorem bln_eq {n k : Nat} (h1 : 2 ^ k ≤ n) (h2 : n < 2 ^ (k + 1)) : bln n = k + 1 := Nat.le_antisymm (bln_le_of h2) (le_bln h1)
/-- trailing zeros, the odd part -/
def tzF : Nat → Int → Nat
  | 0, _ => 0
  | n + 1, u => if u % 2 = 0 then tzF n (u / 2) + 1 else 0
def tz (u : Int) : Nat := tzF u.natAbs u
def od (u : Int) : Int := u / 2 ^ tz u
theorem tzF_spec : ∀ (n : Nat) (u : Int), u ≠ 0 → u.natAbs ≤ n → ∃ m, u = m * 2 ^ tzF n u ∧ m % 2 = 1
  | 0, u, h0, hn => by omega
  | n + 1, u, h0, hn => by
    unfold tzF
    by_cases h : u % 2 = 0
    · rw [if_pos h]
      obtain ⟨m, h1, h2⟩ := tzF_spec n (u / 2) (by omega) (by omega)
      refine ⟨m, ?_, h2⟩
      have e : u = (u / 2) * 2 := by omega
      rw [Int.pow_succ, ← Int.mul_assoc, ← h1]
      exact e
    · rw [if_neg h]
      exact ⟨u, by simp, by omega⟩
theorem tz_spec {u : Int} (h : u ≠ 0) : u = od u * 2 ^ tz u ∧ od u % 2 = 1 := by
  obtain ⟨m, h1, h2⟩ := tzF_spec u.natAbs u h (Nat.le_refl _)
  have e : od u = m := by
    unfold od tz
    have p : (2 : Int) ^ tzF u.natAbs u ≠ 0 := Int.pow_ne_zero (by decide)
    generalize tzF u.natAbs u = z at h1 p
    rw [h1]
    exact Int.mul_ediv_cancel _ p
  rw [e]
  exact ⟨h1, h2⟩
theorem odd_unique : ∀ (z w : Nat) (m n : Int), m * 2 ^ z = n * 2 ^ w → m % 2 = 1 → n % 2 = 1 → m = n ∧ z = w
  | 0, 0, m, n, h, _, _ => ⟨by simpa using h, rfl⟩
  | 0, w + 1, m, n, h, h1, h2 => by
    exfalso
    rw [Int.pow_succ, Int.pow_zero, Int.mul_one, ← Int.mul_assoc] at h
    omega
  | z + 1, 0, m, n, h, h1, h2 => by
    exfalso
    rw [Int.pow_succ, Int.pow_zero, Int.mul_one, ← Int.mul_assoc] at h
    omega
  | z + 1, w + 1, m, n, h, h1, h2 => by
    rw [Int.pow_succ, Int.pow_succ, ← Int.mul_assoc, ← Int.mul_assoc] at h
    obtain ⟨e1, e2⟩ := odd_unique z w m n (by omega) h1 h2
    exact ⟨e1, by rw [e2]⟩
theorem tz_unique {u m : Int} {z : Nat} (h : u = m * 2 ^ z) (hm : m % 2 = 1) : od u = m ∧ tz u = z := by
  have p : (2 : Int) ^ z ≠ 0 := Int.pow_ne_zero (by decide)
  have h0 : u ≠ 0 := by
    intro e
    rw [e] at h
    rcases Int.mul_eq_zero.mp h.symm with h | h
    · omega
    · exact p h
  obtain ⟨h1, h2⟩ := tz_spec h0
  exact odd_unique _ _ _ _ (h1.symm.trans h) h2 hm
/-- the value of so many units -/
def valD (f : Form) (u : Int) : PyData := if u = 0 then .tuple [.int 0, .int 0] else .tuple [.int (od u), .int (f.low + tz u)]
def encV (f : Form) : Res → PyData
  | .fin u => valD f u
  | .pinf => .str "inf"
  | .ninf => .str "-inf"
/-- the same in natural numbers -/
def nrmN (f : Form) : Nat := 2 ^ (f.p - 1)
def topN (f : Form) : Nat := (2 ^ f.p - 1) * 2 ^ f.e
theorem nrm_cast (f : Form) : nrm f = (nrmN f : Int) := by unfold nrm nrmN; simp
theorem top_cast (f : Form) : top f = (topN f : Int) := by
  unfold top topN
  have h : 1 ≤ 2 ^ f.p := Nat.one_le_two_pow
  rw [Int.natCast_mul, Int.natCast_sub h]
  simp
/-- is so many units, without its sign, a number -/
def numN (f : Form) (s : Nat) : Bool := if s < nrmN f then (s == 0 || f.g) else decide (s ≤ topN f) && (s % 2 ^ (bln s - f.p) == 0)
def isNum (f : Form) (u : Int) : Bool := numN f u.natAbs
/-- neighbours of a fraction whose whole part is w, without its sign -/
def nb (f : Form) (w : Nat) : Nat × Nat := if w < nrmN f ∧ f.g = false then (0, nrmN f) else (w - w % 2 ^ (bln w - f.p), w - w % 2 ^ (bln w - f.p) + 2 ^ (bln w - f.p))
/-- takes the outer neighbour: x and y: twice the fraction, the sum of the neighbours -/
def goOut (m : Mode) (neg : Bool) (x y : Int) (im : Nat) : Bool := match m with
  | .zero => false
  | .down => neg
  | .up => !neg
  | .even => if x ≠ y then decide (y < x) else im % 2 == 1
  | .away => if x ≠ y then decide (y < x) else true
def mag (f : Form) (neg : Bool) (a b : Nat) : Nat :=
  if a = (nb f (a / b)).1 * b then (nb f (a / b)).1
  else if goOut f.mode neg (2 * a) (((nb f (a / b)).1 + (nb f (a / b)).2) * b) ((nb f (a / b)).1 / ((nb f (a / b)).2 - (nb f (a / b)).1)) = true then (nb f (a / b)).2 else (nb f (a / b)).1
/-- does mode hold back to the largest number -/
def hold (f : Form) (neg : Bool) : Bool := !f.inf || f.mode == .zero || f.mode == (if neg then Mode.up else Mode.down)
def bnd (f : Form) (neg : Bool) (m : Nat) : Res :=
  if topN f < m then (if hold f neg then .fin (if neg then -(topN f : Int) else topN f) else if neg then .ninf else .pinf) else .fin (if neg then -(m : Int) else m)
/-- the fraction t / b, in units, rounded -/
def rnd (f : Form) (t : Int) (b : Nat) : Res := bnd f (decide (t < 0)) (mag f (decide (t < 0)) t.natAbs b)
theorem dec_tiny (g : Bool) : decide (tinyS g = ("gradual" : Str)) = g := by cases g <;> decide +kernel
theorem dec_flush (g : Bool) : decide (tinyS g = ("flush" : Str)) = !g := by cases g <;> decide +kernel
theorem dec_largest (b : Bool) : decide (hugeS b = ("largest" : Str)) = !b := by cases b <;> decide +kernel
theorem dec_infinite (b : Bool) : decide (hugeS b = ("infinite" : Str)) = b := by cases b <;> decide +kernel
theorem dec_mode (m n : Mode) : decide (m.s = n.s) = decide (m = n) := by cases m <;> cases n <;> decide +kernel
theorem two_pow_pos (n : Nat) : (0 : Int) < 2 ^ n := Int.pow_pos (by decide)
theorem Int.pow_le_pow_right₀ (m n : Nat) (h : m ≤ n) : (2 : Int) ^ m ≤ 2 ^ n := by
  have := Nat.pow_le_pow_right (n := 2) (by decide) h
  exact_mod_cast this
end Fx

set_option Elab.async false
set_option linter.all false
set_option maxRecDepth 100000
namespace Fx
open PySem
theorem land_even (v : Nat) (h : 0 < v) : (2 * v) &&& (2 * v - 1) = 2 * (v &&& (v - 1)) := by
  apply Nat.eq_of_testBit_eq
  intro i
  cases i with
  | zero => simp [Nat.testBit_and]
  | succ i =>
    have e1 : 2 * v / 2 = v := by omega
    have e2 : (2 * v - 1) / 2 = v - 1 := by omega
    have e3 : 2 * (v &&& (v - 1)) / 2 = v &&& (v - 1) := by omega
    rw [Nat.testBit_and, Nat.testBit_succ, Nat.testBit_succ, Nat.testBit_succ, e1, e2, e3, Nat.testBit_and]
theorem land_odd (a : Nat) : (2 * a + 1) &&& (2 * a) = 2 * a := by
  apply Nat.eq_of_testBit_eq
  intro i
  cases i with
  | zero => simp [Nat.testBit_and]
  | succ i =>
    have e1 : (2 * a + 1) / 2 = a := by omega
    have e2 : (2 * a) / 2 = a := by omega
    rw [Nat.testBit_and, Nat.testBit_succ, Nat.testBit_succ, e1, e2, Bool.and_self]
theorem land_pred : ∀ (z m : Nat), m % 2 = 1 → (m * 2 ^ z) &&& (m * 2 ^ z - 1) = m * 2 ^ z - 2 ^ z
  | 0, m, h => by
    have e : m = 2 * (m / 2) + 1 := by omega
    have e2 : m * 2 ^ 0 = 2 * (m / 2) + 1 := by omega
    rw [e2]
    exact land_odd (m / 2)
  | z + 1, m, h => by
    have p : 0 < m * 2 ^ z := Nat.mul_pos (by omega) (Nat.two_pow_pos z)
    have e : m * 2 ^ (z + 1) = 2 * (m * 2 ^ z) := by rw [Nat.pow_succ, ← Nat.mul_assoc]; omega
    rw [e, land_even _ p, land_pred z m h, Nat.pow_succ]
    omega
theorem band_neg {u : Int} (h : u ≠ 0) : Builtin.bitAnd u (-u) = 2 ^ tz u := by
  obtain ⟨h1, h2⟩ := tz_spec h
  generalize hz : tz u = z at h1 ⊢
  generalize hm : od u = m at h1 h2
  have key : ∀ v : Nat, v ≠ 0 → v = m.natAbs * 2 ^ z → ((v : Int) - ((v &&& (v - 1) : Nat) : Int)) = 2 ^ z := by
    intro v hv e
    have q := land_pred z m.natAbs (by omega)
    rw [← e] at q
    rw [q]
    have hle : 2 ^ z ≤ v := by
      rw [e]
      have : 0 < m.natAbs := by omega
      exact Nat.le_mul_of_pos_left _ this
    rw [Int.natCast_sub hle]
    have : (((2 : Nat) ^ z : Nat) : Int) = 2 ^ z := by simp
    omega
  have ea : u.natAbs = m.natAbs * 2 ^ z := by
    rw [h1, Int.natAbs_mul, Int.natAbs_pow]; rfl
  unfold Builtin.bitAnd
  rcases Int.lt_or_lt_of_ne h with hn | hp
  · have a1 : decide (0 ≤ u) = false := decide_eq_false (by omega)
    have a2 : decide (0 ≤ -u) = true := decide_eq_true (by omega)
    rw [a1, a2]
    show -u - (((-u).toNat &&& (Builtin.bitNot u).toNat : Nat) : Int) = 2 ^ z
    have e1 : (-u).toNat = u.natAbs := by omega
    have e2 : (Builtin.bitNot u).toNat = u.natAbs - 1 := by unfold Builtin.bitNot; omega
    rw [e1, e2]
    have := key u.natAbs (by omega) ea
    omega
  · have a1 : decide (0 ≤ u) = true := decide_eq_true (by omega)
    have a2 : decide (0 ≤ -u) = false := decide_eq_false (by omega)
    rw [a1, a2]
    show u - ((u.toNat &&& (Builtin.bitNot (-u)).toNat : Nat) : Int) = 2 ^ z
    have e1 : u.toNat = u.natAbs := by omega
    have e2 : (Builtin.bitNot (-u)).toNat = u.natAbs - 1 := by unfold Builtin.bitNot; omega
    rw [e1, e2]
    have := key u.natAbs (by omega) ea
    omega
theorem bln_pow (z : Nat) : bln (2 ^ z) = z + 1 := bln_eq (Nat.le_refl _) (Nat.pow_lt_pow_right (by decide) (by omega))
theorem bits_pow (z : Nat) : Builtin.Int.intBits (2 ^ z) = z + 1 := by
  rw [bits_bln, Int.natAbs_pow]
  exact bln_pow z
theorem od_div (u : Int) : u / 2 ^ tz u = od u := rfl
end Fx

set_option Elab.async false
set_option linter.all false
set_option maxRecDepth 100000
namespace Fx
open PySem
theorem nrmN_pos (f : Form) : 0 < nrmN f := Nat.two_pow_pos _
theorem nrmN_le {f : Form} (ok : f.Ok) : nrmN f ≤ 512 := by
  have := Nat.pow_le_pow_right (n := 2) (by decide) (show f.p - 1 ≤ 9 by have := ok.p10; omega)
  exact this
theorem topN_lt {f : Form} (ok : f.Ok) : topN f < 2 ^ 30 := by
  have h1 := Nat.pow_le_pow_right (n := 2) (by decide) ok.p10
  have h2 := Nat.pow_le_pow_right (n := 2) (by decide) ok.e20
  have h3 : topN f ≤ (2 ^ 10 - 1) * 2 ^ 20 := Nat.mul_le_mul (by omega) h2
  exact Nat.lt_of_le_of_lt h3 (by decide)
theorem step_le (w p : Nat) (hp : 1 ≤ p) : 2 ^ (bln w - p) ≤ w + 1 := by
  by_cases h : w = 0
  · subst h; show 2 ^ (bln 0 - p) ≤ 1; rw [show bln 0 = 0 from rfl, Nat.zero_sub]; exact Nat.le_refl _
  · have h1 := bln_le h
    have h2 := Nat.pow_le_pow_right (n := 2) (by decide) (show bln w - p ≤ bln w - 1 by omega)
    omega
theorem nb_le (f : Form) (hp : 1 ≤ f.p) (w : Nat) : (nb f w).1 ≤ w ∧ (nb f w).1 < (nb f w).2 ∧ (nb f w).2 ≤ 2 * w + 1 + nrmN f := by
  unfold nb
  have hs := step_le w f.p hp
  have hn := nrmN_pos f
  have h0 : 0 < 2 ^ (bln w - f.p) := Nat.two_pow_pos _
  generalize 2 ^ (bln w - f.p) = st at hs h0 ⊢
  have hm := Nat.mod_le w st
  split <;> simp <;> omega
theorem mag_le (f : Form) (hp : 1 ≤ f.p) (neg : Bool) (a b : Nat) : mag f neg a b ≤ 2 * (a / b) + 1 + nrmN f := by
  have h := nb_le f hp (a / b)
  unfold mag
  split
  · omega
  · split <;> omega
theorem bnd_sign (f : Form) (neg : Bool) (m : Nat) : bnd f (decide ((if neg = true then -(m : Int) else (m : Int)) < 0)) m = bnd f neg m := by
  cases neg with
  | false =>
    have e : decide ((if false = true then -(m : Int) else (m : Int)) < 0) = false := decide_eq_false (by rw [if_neg Bool.false_ne_true]; omega)
    rw [e]
  | true =>
    by_cases h : m = 0
    · subst h
      have e : decide ((if true = true then -((0 : Nat) : Int) else ((0 : Nat) : Int)) < 0) = false := by decide
      rw [e]
      unfold bnd
      simp
    · have e : decide ((if true = true then -(m : Int) else (m : Int)) < 0) = true := decide_eq_true (by rw [if_pos rfl]; omega)
      rw [e]
theorem rnd_zero (f : Form) (b : Nat) : rnd f 0 b = .fin 0 := by
  have e : mag f (decide ((0 : Int) < 0)) (0 : Int).natAbs b = 0 := by
    have h : (nb f 0).1 = 0 := by unfold nb; split <;> simp
    unfold mag
    rw [show (0 : Int).natAbs = 0 from rfl, Nat.zero_div, h, Nat.zero_mul, if_pos rfl]
  unfold rnd
  rw [e]
  unfold bnd
  simp
theorem bnd_le {f : Form} {neg : Bool} {m : Nat} {u : Int} (h : bnd f neg m = .fin u) : u.natAbs ≤ topN f := by
  unfold bnd at h
  split at h
  · split at h
    · cases h
      cases neg <;> simp
    · cases neg <;> simp at h
  · rename_i hm
    cases h
    cases neg <;> simp <;> omega
theorem rnd_le {f : Form} {t : Int} {b : Nat} {u : Int} (h : rnd f t b = .fin u) : u.natAbs ≤ topN f := bnd_le h
theorem rnd_small {f : Form} (ok : f.Ok) {t : Int} {b : Nat} : ∀ u, rnd f t b = .fin u → u.natAbs < 2 ^ 1000 := fun u h =>
  Nat.lt_of_le_of_lt (rnd_le h) (Nat.lt_trans (topN_lt ok) (Nat.pow_lt_pow_right (by decide) (by decide)))
/-- small powers -/
theorem pow600 {a : Nat} {n : Nat} (h : a < 2 ^ n) (hn : n ≤ 1200) : 2 * a + 1 + 512 < 2 ^ 1300 := by
  have h1 := Nat.pow_le_pow_right (n := 2) (by decide) hn
  have h2 : (2 : Nat) ^ 1300 = 2 ^ 1200 * 2 ^ 100 := by rw [← Nat.pow_add]
  have h3 : (2 : Nat) ^ 100 = 1267650600228229401496703205376 := by decide
  have h4 : 1 ≤ (2 : Nat) ^ 1200 := Nat.one_le_two_pow
  omega
end Fx

set_option Elab.async false
set_option linter.all false
set_option maxRecDepth 100000
namespace Fx
open PySem
/-- an integer within limits -/
def within (d : PyData) (l g : Int) : Bool := match d with
  | .int i => decide (l ≤ i) && decide (i ≤ g)
  | _ => false
theorem goOut_congr {m : Mode} {neg : Bool} {x y x' y' : Int} {im : Nat} (h : x < y ↔ x' < y') (h2 : y < x ↔ y' < x') : goOut m neg x y im = goOut m neg x' y' im := by
  have e1 : (x ≠ y) ↔ (x' ≠ y') := by constructor <;> intro h3 h4 <;> apply h3 <;> omega
  cases m
  · show (if x ≠ y then decide (y < x) else _) = (if x' ≠ y' then decide (y' < x') else _)
    by_cases h3 : x ≠ y
    · rw [if_pos h3, if_pos (e1.mp h3)]; exact decide_eq_decide.mpr h2
    · rw [if_neg h3, if_neg fun z => h3 (e1.mpr z)]
  · show (if x ≠ y then decide (y < x) else _) = (if x' ≠ y' then decide (y' < x') else _)
    by_cases h3 : x ≠ y
    · rw [if_pos h3, if_pos (e1.mp h3)]; exact decide_eq_decide.mpr h2
    · rw [if_neg h3, if_neg fun z => h3 (e1.mpr z)]
  · rfl
  · rfl
  · rfl
/-- compare two products by a common factor -/
theorem lt_cross {a b a' b' c : Nat} (hb : 0 < b) (hb' : 0 < b') (h : a * b' = a' * b) : c * b < a ↔ c * b' < a' := by
  constructor
  · intro q
    have h1 : c * b * b' < a * b' := Nat.mul_lt_mul_of_pos_right q hb'
    rw [h] at h1
    have h2 : c * b' * b < a' * b := by rw [Nat.mul_right_comm]; exact h1
    exact Nat.lt_of_mul_lt_mul_right h2
  · intro q
    have h1 : c * b' * b < a' * b := Nat.mul_lt_mul_of_pos_right q hb
    rw [← h] at h1
    have h2 : c * b * b' < a * b' := by rw [Nat.mul_right_comm]; exact h1
    exact Nat.lt_of_mul_lt_mul_right h2
theorem gt_cross {a b a' b' c : Nat} (hb : 0 < b) (hb' : 0 < b') (h : a * b' = a' * b) : a < c * b ↔ a' < c * b' := by
  constructor
  · intro q
    have h1 : a * b' < c * b * b' := Nat.mul_lt_mul_of_pos_right q hb'
    rw [h] at h1
    have h2 : a' * b < c * b' * b := by rw [Nat.mul_right_comm]; exact h1
    exact Nat.lt_of_mul_lt_mul_right h2
  · intro q
    have h1 : a' * b < c * b' * b := Nat.mul_lt_mul_of_pos_right q hb
    rw [← h] at h1
    have h2 : a * b' < c * b * b' := by rw [Nat.mul_right_comm]; exact h1
    exact Nat.lt_of_mul_lt_mul_right h2
theorem div_cross {a b a' b' : Nat} (hb : 0 < b) (hb' : 0 < b') (h : a * b' = a' * b) : a / b = a' / b' := by
  have h1 : a / b = a * b' / (b * b') := (Nat.mul_div_mul_right a b hb').symm
  have h2 : a' / b' = a' * b / (b' * b) := (Nat.mul_div_mul_right a' b' hb).symm
  rw [h1, h2, h, Nat.mul_comm b b']
theorem mag_frac {f : Form} {neg : Bool} {a b a' b' : Nat} (hb : 0 < b) (hb' : 0 < b') (h : a * b' = a' * b) : mag f neg a b = mag f neg a' b' := by
  have hd := div_cross hb hb' h
  have key : ∀ c : Nat, a = c * b ↔ a' = c * b' := fun c => by
    have h1 := lt_cross (c := c) hb hb' h
    have h2 := gt_cross (c := c) hb hb' h
    constructor <;> intro e <;> omega
  unfold mag
  rw [hd]
  generalize (nb f (a' / b')).1 = i
  generalize (nb f (a' / b')).2 = o
  by_cases hc : a = i * b
  · rw [if_pos hc, if_pos ((key i).mp hc)]
  · rw [if_neg hc, if_neg fun z => hc ((key i).mpr z)]
    have h2 : (2 * a) * b' = (2 * a') * b := by rw [Nat.mul_assoc, h, Nat.mul_assoc]
    have e : goOut f.mode neg (2 * a) ((i + o) * b) (i / (o - i)) = goOut f.mode neg (2 * a') ((i + o) * b') (i / (o - i)) := by
      refine goOut_congr ?_ ?_
      · have := gt_cross (c := i + o) hb hb' h2
        constructor
        · intro q; have := this.mp (by exact_mod_cast q); exact_mod_cast this
        · intro q; have := this.mpr (by exact_mod_cast q); exact_mod_cast this
      · have := lt_cross (c := i + o) hb hb' h2
        constructor
        · intro q; have := this.mp (by exact_mod_cast q); exact_mod_cast this
        · intro q; have := this.mpr (by exact_mod_cast q); exact_mod_cast this
    rw [e]
/-- a fraction rounds the same however it is written -/
theorem rnd_frac {f : Form} {t t' : Int} {b b' : Nat} (hb : 0 < b) (hb' : 0 < b') (h : t * (b' : Int) = t' * (b : Int)) : rnd f t b = rnd f t' b' := by
  have hs : (t < 0) ↔ (t' < 0) := by
    have p : (0 : Int) < (b : Int) := by omega
    have p' : (0 : Int) < (b' : Int) := by omega
    constructor
    · intro q
      have : t * (b' : Int) < 0 := Int.mul_neg_of_neg_of_pos q p'
      rw [h] at this
      exact Int.neg_of_mul_neg_left this (by omega)
    · intro q
      have : t' * (b : Int) < 0 := Int.mul_neg_of_neg_of_pos q p
      rw [← h] at this
      exact Int.neg_of_mul_neg_left this (by omega)
  have hn : t.natAbs * b' = t'.natAbs * b := by
    have := congrArg Int.natAbs h
    rw [Int.natAbs_mul, Int.natAbs_mul] at this
    simpa using this
  unfold rnd
  rw [decide_eq_decide.mpr hs, mag_frac hb hb' hn]
/-- a fraction times a power of two, in units -/
def rndV (f : Form) (t : Int) (b : Nat) (s : Int) : Res := if s < 0 then rnd f t (b * 2 ^ (-s).toNat) else rnd f (t * 2 ^ s.toNat) b
theorem rndV_eq {f : Form} {t t' : Int} {b b' : Nat} {s s' : Int} (hb : 0 < b) (hb' : 0 < b') (h : t * (b' : Int) * 2 ^ (s - min s s').toNat = t' * (b : Int) * 2 ^ (s' - min s s').toNat) : rndV f t b s = rndV f t' b' s' := by
  have e : ∀ (n : Nat) (x y : Int), x * 2 ^ n = y * 2 ^ n → x = y := fun n x y q => Int.eq_of_mul_eq_mul_right (Int.ne_of_gt (two_pow_pos n)) q
  have pw : ∀ a b : Nat, (2 : Int) ^ (a + b) = 2 ^ a * 2 ^ b := fun a b => Int.pow_add 2 a b
  have c2 : ∀ n : Nat, ((2 ^ n : Nat) : Int) = (2 : Int) ^ n := fun n => by simp
  unfold rndV
  -- as fractions: t 2^s / b and t' 2^s' / b'
  by_cases h1 : s < 0 <;> by_cases h2 : s' < 0
  · rw [if_pos h1, if_pos h2]
    refine rnd_frac (Nat.mul_pos hb (Nat.two_pow_pos _)) (Nat.mul_pos hb' (Nat.two_pow_pos _)) ?_
    rw [Int.natCast_mul, Int.natCast_mul, c2, c2]
    have k1 : (-s').toNat = (s - min s s').toNat + (-(max s s')).toNat := by omega
    have k2 : (-s).toNat = (s' - min s s').toNat + (-(max s s')).toNat := by omega
    rw [k1, k2, pw, pw, ← Int.mul_assoc, ← Int.mul_assoc, ← Int.mul_assoc, ← Int.mul_assoc, h]
  · rw [if_pos h1, if_neg h2]
    refine rnd_frac (Nat.mul_pos hb (Nat.two_pow_pos _)) hb' ?_
    rw [Int.natCast_mul, c2]
    have k1 : (s - min s s').toNat = 0 := by omega
    have k2 : (s' - min s s').toNat = s'.toNat + (-s).toNat := by omega
    rw [k1, k2, pw] at h
    rw [Int.pow_zero, Int.mul_one] at h
    rw [h]
    simp only [Int.mul_assoc, Int.mul_comm, Int.mul_left_comm]
  · rw [if_neg h1, if_pos h2]
    refine rnd_frac hb (Nat.mul_pos hb' (Nat.two_pow_pos _)) ?_
    rw [Int.natCast_mul, c2]
    have k1 : (s' - min s s').toNat = 0 := by omega
    have k2 : (s - min s s').toNat = s.toNat + (-s').toNat := by omega
    rw [k1, k2, pw] at h
    rw [Int.pow_zero, Int.mul_one] at h
    rw [← h]
    simp only [Int.mul_assoc, Int.mul_comm, Int.mul_left_comm]
  · rw [if_neg h1, if_neg h2]
    refine rnd_frac hb hb' ?_
    have k1 : s.toNat = (s - min s s').toNat + (min s s').toNat := by omega
    have k2 : s'.toNat = (s' - min s s').toNat + (min s s').toNat := by omega
    rw [k1, k2, pw, pw]
    have : t * (b' : Int) * 2 ^ (s - min s s').toNat * 2 ^ (min s s').toNat = t' * (b : Int) * 2 ^ (s' - min s s').toNat * 2 ^ (min s s').toNat := by rw [h]
    simp only [Int.mul_assoc, Int.mul_comm, Int.mul_left_comm] at this ⊢
    exact this
theorem rndV_small {f : Form} (ok : f.Ok) {t : Int} {b : Nat} {s : Int} : ∀ u, rndV f t b s = .fin u → u.natAbs < 2 ^ 1000 := by
  unfold rndV
  split <;> exact rnd_small ok
end Fx

set_option Elab.async false
set_option linter.all false
set_option maxRecDepth 100000
set_option exponentiation.threshold 5000
namespace Fx
open PySem
/-- a number's value as a pair -/
structure Pair (f : Form) (u n k : Int) : Prop where
  val : valD f u = .tuple [.int n, .int k]
  u_eq : u = n * 2 ^ (k - f.low).toNat
  zero : n = 0 ↔ u = 0
  k0 : n = 0 → k = 0
  odd : n ≠ 0 → n % 2 = 1 ∧ f.low ≤ k ∧ k ≤ f.low + 1000
  le : n.natAbs ≤ u.natAbs
theorem natAbs_od {u : Int} (h : u ≠ 0) : u.natAbs = (od u).natAbs * 2 ^ tz u := by
  have := congrArg Int.natAbs (tz_spec h).1
  rw [Int.natAbs_mul, Int.natAbs_pow] at this
  exact this
theorem tz_le {u : Int} (h : u ≠ 0) {m : Nat} (hm : u.natAbs < 2 ^ m) : tz u < m := by
  have h1 := natAbs_od h
  have h2 : 1 ≤ (od u).natAbs := by have := (tz_spec h).2; omega
  have h3 : 2 ^ tz u ≤ u.natAbs := by rw [h1]; exact Nat.le_mul_of_pos_left _ h2
  exact (Nat.pow_lt_pow_iff_right (by decide : 1 < 2)).mp (Nat.lt_of_le_of_lt h3 hm)
theorem pair_of (f : Form) {u : Int} (hu : u.natAbs < 2 ^ 1000) : ∃ n k, Pair f u n k := by
  by_cases h : u = 0
  · subst h
    exact ⟨0, 0, rfl, by simp, by simp, fun _ => rfl, fun z => absurd rfl z, Nat.le_refl _⟩
  · obtain ⟨h1, h2⟩ := tz_spec h
    have h3 := tz_le h hu
    refine ⟨od u, f.low + tz u, ?_, ?_, ?_, fun z => by omega, fun _ => ⟨h2, by omega, by omega⟩, ?_⟩
    · unfold valD; rw [if_neg h]
    · have e : (f.low + (tz u : Int) - f.low).toNat = tz u := by omega
      rw [e]; exact h1
    · constructor
      · intro z; rw [z] at h2; omega
      · intro z; exact absurd z h
    · rw [natAbs_od h]; exact Nat.le_mul_of_pos_right _ (Nat.two_pow_pos _)
theorem nrm_le_top {f : Form} (ok : f.Ok) : nrmN f ≤ topN f := by
  unfold nrmN topN
  have p4 := ok.p4
  have e : 2 ^ f.p = 2 * 2 ^ (f.p - 1) := by
    rw [← Nat.pow_succ']; congr 1; omega
  have h2 : 0 < 2 ^ (f.p - 1) := Nat.two_pow_pos _
  have h3 : 2 ^ (f.p - 1) ≤ 2 ^ f.p - 1 := by omega
  exact Nat.le_trans h3 (Nat.le_mul_of_pos_right _ (Nat.two_pow_pos _))
theorem isNum_le {f : Form} (ok : f.Ok) {u : Int} (h : isNum f u = true) : u.natAbs ≤ topN f := by
  unfold isNum numN at h
  split at h
  · have := nrm_le_top ok
    omega
  · simp only [Bool.and_eq_true, decide_eq_true_eq] at h
    exact h.1
theorem isNum_lt {f : Form} (ok : f.Ok) {u : Int} (h : isNum f u = true) : u.natAbs < 2 ^ 30 := Nat.lt_of_le_of_lt (isNum_le ok h) (topN_lt ok)
theorem pow_mono {a b : Nat} {n : Nat} (h : n < 2 ^ a) (hab : a ≤ b) : n < 2 ^ b := Nat.lt_of_lt_of_le h (Nat.pow_le_pow_right (by decide) hab)
/-- the product, the quotient of two values -/
theorem mul_pairs {f : Form} {u v n1 k1 n2 k2 : Int} (h1 : Pair f u n1 k1) (h2 : Pair f v n2 k2) : rndV f (n1 * n2) 1 (k1 + k2 - f.low) = rndV f (u * v) 1 f.low := by
  refine rndV_eq (by decide) (by decide) ?_
  by_cases z1 : n1 = 0
  · rw [z1, h1.zero.mp z1]; simp
  by_cases z2 : n2 = 0
  · rw [z2, h2.zero.mp z2]; simp
  obtain ⟨_, a1, _⟩ := h1.odd z1
  obtain ⟨_, a2, _⟩ := h2.odd z2
  have e1 : (k1 + k2 - f.low - min (k1 + k2 - f.low) f.low).toNat = (k1 - f.low).toNat + (k2 - f.low).toNat := by omega
  have e2 : (f.low - min (k1 + k2 - f.low) f.low).toNat = 0 := by omega
  rw [e1, e2, Int.pow_add, h1.u_eq, h2.u_eq]
  generalize (2 : Int) ^ (k1 - f.low).toNat = x
  generalize (2 : Int) ^ (k2 - f.low).toNat = y
  simp [Int.mul_assoc, Int.mul_comm, Int.mul_left_comm]
theorem div_pairs {f : Form} {u v n1 k1 n2 k2 s : Int} (h1 : Pair f u n1 k1) (h2 : Pair f v n2 k2) (hv : v ≠ 0) (hs : s = 1 ∨ s = -1) : rndV f (s * n1) n2.natAbs (k1 - k2 - f.low) = rndV f (s * u) v.natAbs (-f.low) := by
  have z2 : n2 ≠ 0 := fun z => hv (h2.zero.mp z)
  refine rndV_eq (by omega) (by omega) ?_
  by_cases z1 : n1 = 0
  · rw [z1, h1.zero.mp z1]; simp
  obtain ⟨_, a1, _⟩ := h1.odd z1
  obtain ⟨_, a2, _⟩ := h2.odd z2
  have ev : (v.natAbs : Int) = (n2.natAbs : Int) * 2 ^ (k2 - f.low).toNat := by
    have := congrArg Int.natAbs h2.u_eq
    rw [Int.natAbs_mul, Int.natAbs_pow] at this
    rw [this]; simp
  have e1 : (k2 - f.low).toNat + (k1 - k2 - f.low - min (k1 - k2 - f.low) (-f.low)).toNat = (k1 - f.low).toNat + (-f.low - min (k1 - k2 - f.low) (-f.low)).toNat := by omega
  have e2 : (2 : Int) ^ (k2 - f.low).toNat * 2 ^ (k1 - k2 - f.low - min (k1 - k2 - f.low) (-f.low)).toNat = 2 ^ (k1 - f.low).toNat * 2 ^ (-f.low - min (k1 - k2 - f.low) (-f.low)).toNat := by
    rw [← Int.pow_add, ← Int.pow_add, e1]
  rw [ev, h1.u_eq]
  generalize (2 : Int) ^ (k1 - f.low).toNat = x at e2 ⊢
  generalize (2 : Int) ^ (k2 - f.low).toNat = y at e2 ⊢
  generalize (2 : Int) ^ (k1 - k2 - f.low - min (k1 - k2 - f.low) (-f.low)).toNat = z at e2 ⊢
  generalize (2 : Int) ^ (-f.low - min (k1 - k2 - f.low) (-f.low)).toNat = t at e2 ⊢
  have : s * n1 * ((n2.natAbs : Int) * y) * z = s * n1 * (n2.natAbs : Int) * (y * z) := by simp only [Int.mul_assoc, Int.mul_comm, Int.mul_left_comm]
  rw [this, e2]
  simp only [Int.mul_assoc, Int.mul_comm, Int.mul_left_comm]
end Fx

set_option Elab.async false
set_option linter.all false
set_option maxRecDepth 100000
set_option exponentiation.threshold 5000
namespace Fx
open PySem Dl
def isInf : Res → Bool
  | .fin _ => false
  | _ => true
def fmtB : PyData → Bool
  | .tuple [p, .int low, high, mode, tiny, huge] => within p 4 10 && (within (.int low) (-40) 40 && (within high low (min (low + 20) 40) && (inF mode [.str ("even" : Str), .str ("away" : Str), .str ("down" : Str), .str ("up" : Str), .str ("zero" : Str)] && (inF tiny [.str ("gradual" : Str), .str ("flush" : Str)] && inF huge [.str ("infinite" : Str), .str ("largest" : Str)]))))
  | _ => false
/-- of six items the last three are plain -/
def fmtPre : PyData → Prop
  | .tuple [_, _, _, mode, tiny, huge] => scD mode = true ∧ scD tiny = true ∧ scD huge = true
  | _ => True
def dyB : PyData → Bool
  | .tuple [.int n, k] => within (.int n) (-(10 ^ 40)) (10 ^ 40) && (within k (-400) 400 && (decide (n % 2 = 1) || (decide (n = 0) && (match k with | .int k => decide (k = 0) | _ => false))))
  | _ => false
def stB (f : Form) : PyData → Bool
  | .tuple [.int n, .int k] => decide (n = 0) || (decide (f.low ≤ k) && isNum f (n * 2 ^ (k - f.low).toNat))
  | _ => false
def hasB (f : Form) (v : PyData) : Bool := dyB v && stB f v
theorem dyB_inv {v : PyData} (h : dyB v = true) : ∃ n k : Int, v = .tuple [.int n, .int k] ∧ n.natAbs ≤ 10 ^ 40 ∧ -400 ≤ k ∧ k ≤ 400 := by
  unfold dyB at h
  split at h
  · rename_i n k
    simp only [Bool.and_eq_true] at h
    obtain ⟨h1, h2, _⟩ := h
    obtain ⟨k, rfl⟩ : ∃ m, k = .int m := by
      cases k <;> first | exact ⟨_, rfl⟩ | (simp [within] at h2)
    simp only [within, Bool.and_eq_true, decide_eq_true_eq] at h1 h2
    exact ⟨n, k, rfl, by omega, h2.1, h2.2⟩
  · cases h
theorem hasB_val {f : Form} (ok : f.Ok) {u : Int} (h : isNum f u = true) : hasB f (valD f u) = true := by
  have hl := isNum_lt ok h
  have lo := ok.lo
  have hi := ok.hi
  by_cases h0 : u = 0
  · subst h0; rfl
  · obtain ⟨h1, h2⟩ := tz_spec h0
    have h3 := tz_le h0 hl
    have h4 : (od u).natAbs ≤ u.natAbs := by rw [natAbs_od h0]; exact Nat.le_mul_of_pos_right _ (Nat.two_pow_pos _)
    have e : (f.low + (tz u : Int) - f.low).toNat = tz u := by omega
    have big : ((10 : Int) ^ 40) = 10000000000000000000000000000000000000000 := by decide
    unfold hasB valD
    rw [if_neg h0]
    simp only [dyB, stB, within, e, ← h1, h, Bool.and_true, Bool.and_eq_true, Bool.or_eq_true, decide_eq_true_eq, big]
    omega
theorem fmtB_enc {f : Form} (ok : f.Ok) : fmtB (encF f) = true ∧ fmtPre (encF f) := by
  refine ⟨?_, rfl, rfl, rfl⟩
  have p4 := ok.p4
  have p10 := ok.p10
  have lo := ok.lo
  have hi := ok.hi
  have e20 := ok.e20
  have h1 : inF (.str f.mode.s) [.str ("even" : Str), .str ("away" : Str), .str ("down" : Str), .str ("up" : Str), .str ("zero" : Str)] = true := by cases f.mode <;> decide +kernel
  have h2 : inF (.str (tinyS f.g)) [.str ("gradual" : Str), .str ("flush" : Str)] = true := by cases f.g <;> decide +kernel
  have h3 : inF (.str (hugeS f.inf)) [.str ("infinite" : Str), .str ("largest" : Str)] = true := by cases f.inf <;> decide +kernel
  show (within (.int f.p) 4 10 && _) = true
  simp only [within, h1, h2, h3, Bool.and_true, Bool.and_eq_true, decide_eq_true_eq]
  omega
theorem dyB_pair {f : Form} {n k : Int} (h : hasB f (.tuple [.int n, .int k]) = true) : -400 ≤ k ∧ k ≤ 400 := by
  unfold hasB at h
  rw [Bool.and_eq_true] at h
  obtain ⟨n', k', e, _, h1, h2⟩ := dyB_inv h.1
  cases e
  exact ⟨h1, h2⟩
end Fx

set_option Elab.async false
set_option linter.all false
set_option maxRecDepth 100000
set_option exponentiation.threshold 5000
namespace Fx
open PySem Dl
theorem pair_k {f : Form} (ok : f.Ok) {u n k : Int} (p : Pair f u n k) (hu : u.natAbs < 2 ^ 30) : -40 ≤ k ∧ k ≤ 70 := by
  have lo := ok.lo
  have hi := ok.hi
  by_cases hn : n = 0
  · have := p.k0 hn; omega
  · have h0 : u ≠ 0 := fun z => hn (p.zero.mpr z)
    obtain ⟨_, h2, _⟩ := p.odd hn
    have h3 := tz_le h0 hu
    have e := p.val
    unfold valD at e
    rw [if_neg h0] at e
    injection e with e
    injection e with e1 e2
    injection e2 with e2 _
    injection e2 with e2
    omega
/-- what the halving loop of the law keeps: w = s * 2^j, and while j > 0 the last one was not yet short -/
theorem is_loop {f : Form} (ok : f.Ok) {a s j : Nat} (ha : a = s * 2 ^ j) (hj : j = 0 ∨ 2 ^ f.p ≤ 2 * s) (hend : ¬ (2 ^ f.p ≤ s ∧ s % 2 = 0)) :
    (decide (a ≤ topN f) && (decide (s < 2 ^ f.p) && (decide (a = 0) || decide ((if f.g = true then 1 else nrmN f) ≤ a)))) = numN f a := by
  have p4 := ok.p4
  have hp : 2 ^ f.p = 2 * 2 ^ (f.p - 1) := by rw [← Nat.pow_succ']; congr 1; omega
  have hnt := nrm_le_top ok
  unfold numN
  by_cases hs : a < nrmN f
  · rw [if_pos hs]
    have h1 : a ≤ topN f := by omega
    have h2 : s < 2 ^ f.p := by
      have : s ≤ a := by rw [ha]; exact Nat.le_mul_of_pos_right _ (Nat.two_pow_pos _)
      unfold nrmN at hs; omega
    rw [decide_eq_true h1, decide_eq_true h2, Bool.true_and, Bool.true_and]
    by_cases h0 : a = 0
    · rw [h0]; rfl
    · have hb : (a == 0) = false := beq_eq_false_iff_ne.mpr h0
      rw [decide_eq_false h0, hb, Bool.false_or, Bool.false_or]
      cases hg : f.g
      · rw [if_neg Bool.false_ne_true]; exact decide_eq_false (by omega)
      · rw [if_pos rfl]; exact decide_eq_true (by omega)
  · rw [if_neg hs]
    have hn := nrmN_pos f
    have h0 : ¬ a = 0 := by omega
    have hl : (if f.g = true then 1 else nrmN f) ≤ a := by split <;> omega
    rw [decide_eq_true hl, Bool.or_true, Bool.and_true]
    congr 1
    -- s < 2^p iff the low bits are nought
    by_cases h1 : s < 2 ^ f.p
    · rw [decide_eq_true h1]
      have h2 : a % 2 ^ (bln a - f.p) = 0 := by
        rcases hj with hj | hj
        · subst hj
          have e : a = s := by rw [ha]; simp
          have := bln_le_of (show a < 2 ^ f.p by omega)
          rw [show bln a - f.p = 0 by omega, Nat.pow_zero, Nat.mod_one]
        · have e1 : bln s = f.p := by
            have := bln_eq (n := s) (k := f.p - 1) (by omega) (by rw [show f.p - 1 + 1 = f.p by omega]; exact h1)
            omega
          have h3 : bln a ≤ f.p + j := bln_le_of (by rw [ha, Nat.pow_add]; exact Nat.mul_lt_mul_of_pos_right h1 (Nat.two_pow_pos _))
          have h4 : 2 ^ j ∣ a := ⟨s, by rw [ha, Nat.mul_comm]⟩
          have h5 : 2 ^ (bln a - f.p) ∣ 2 ^ j := Nat.pow_dvd_pow 2 (by omega)
          exact Nat.mod_eq_zero_of_dvd (Nat.dvd_trans h5 h4)
      rw [h2]; rfl
    · rw [decide_eq_false h1]
      have hodd : s % 2 = 1 := by
        have := Nat.mod_two_eq_zero_or_one s
        rcases this with h | h
        · exact absurd ⟨by omega, h⟩ hend
        · exact h
      have h3 : f.p + 1 + j ≤ bln a := by
        have h6 : 2 ^ (f.p + j) ≤ a := by rw [ha, Nat.pow_add]; exact Nat.mul_le_mul_right _ (by omega)
        have := le_bln h6
        omega
      have h4 : ¬ a % 2 ^ (bln a - f.p) = 0 := by
        intro z
        have h5 : 2 ^ (j + 1) ∣ a := Nat.dvd_trans (Nat.pow_dvd_pow 2 (by omega)) (Nat.dvd_of_mod_eq_zero z)
        obtain ⟨c, hc⟩ := h5
        rw [ha, Nat.pow_succ, Nat.mul_comm s, Nat.mul_assoc] at hc
        have := Nat.eq_of_mul_eq_mul_left (Nat.two_pow_pos j) hc
        omega
      exact (beq_eq_false_iff_ne.mpr h4).symm
end Fx

set_option Elab.async false
set_option linter.all false
set_option maxRecDepth 100000
set_option exponentiation.threshold 5000
namespace Fx
open PySem Dl
theorem cho1 {m : Mode} {below : Bool} {x y : Int} {im : Nat} (h : (decide (m.s = ("zero" : Str)) || decide (m.s = if below = true then ("up" : Str) else ("down" : Str))) = true) : goOut m below x y im = false := by
  cases m <;> cases below <;> first | rfl | exact absurd h (by decide +kernel)
theorem cho2 {m : Mode} {below : Bool} {x y : Int} {im : Nat} (h : (decide (m.s = ("zero" : Str)) || decide (m.s = if below = true then ("up" : Str) else ("down" : Str))) = false) (h2 : inF (.str m.s) [.str ("up" : Str), .str ("down" : Str)] = true) : goOut m below x y im = true := by
  cases m <;> cases below <;> first | rfl | exact absurd h (by decide +kernel) | exact absurd h2 (by decide +kernel)
theorem cho3 {m : Mode} {below : Bool} {x y : Int} {im : Nat} (h : (decide (m.s = ("zero" : Str)) || decide (m.s = if below = true then ("up" : Str) else ("down" : Str))) = false) (h2 : inF (.str m.s) [.str ("up" : Str), .str ("down" : Str)] = false) :
    goOut m below x y im = if x ≠ y then decide (y < x) else (decide (m.s = ("away" : Str)) || im % 2 == 1) := by
  cases m
  · show (if x ≠ y then decide (y < x) else (im % 2 == 1)) = if x ≠ y then decide (y < x) else (decide ((Mode.even).s = ("away" : Str)) || im % 2 == 1)
    rw [show decide ((Mode.even).s = ("away" : Str)) = false by decide +kernel, Bool.false_or]
  · show (if x ≠ y then decide (y < x) else true) = if x ≠ y then decide (y < x) else (decide ((Mode.away).s = ("away" : Str)) || im % 2 == 1)
    rw [show decide ((Mode.away).s = ("away" : Str)) = true by decide +kernel, Bool.true_or]
  · exact absurd h2 (by decide +kernel)
  · exact absurd h2 (by decide +kernel)
  · cases below <;> exact absurd h (by decide +kernel)
/-- where the law's rounding lets the infinite through -/
theorem hold_law (f : Form) (below : Bool) : (f.inf && (!decide (f.mode.s = ("zero" : Str)) && !decide (f.mode.s = if below = true then ("up" : Str) else ("down" : Str)))) = !hold f below := by
  unfold hold
  cases f.inf
  · rfl
  · cases f.mode <;> cases below <;> decide +kernel
/-- the doubling loop of the law -/
theorem nb_law {f : Form} {w j : Nat} (hw : ¬ (w < nrmN f ∧ f.g = false)) (hj : j ≤ bln w - f.p) (hend : w / 2 ^ j < 2 ^ f.p) : nb f w = (w / 2 ^ j * 2 ^ j, w / 2 ^ j * 2 ^ j + 2 ^ j) := by
  have h1 : w < 2 ^ f.p * 2 ^ j := (Nat.div_lt_iff_lt_mul (Nat.two_pow_pos j)).mp hend
  rw [← Nat.pow_add] at h1
  have h2 := bln_le_of h1
  have e : bln w - f.p = j := by omega
  have e2 : w - w % 2 ^ j = w / 2 ^ j * 2 ^ j := by
    have := Nat.div_add_mod w (2 ^ j)
    rw [Nat.mul_comm] at this
    omega
  unfold nb
  rw [if_neg hw, e, e2]
theorem num_scaled {f : Form} (ok : f.Ok) {m j : Nat} (h1 : nrmN f ≤ m) (h2 : m < 2 ^ f.p) (hj : j ≤ f.e) : numN f (m * 2 ^ j) = true := by
  have p4 := ok.p4
  have e : bln (m * 2 ^ j) = f.p + j := by
    have a : 2 ^ (f.p - 1 + j) ≤ m * 2 ^ j := by rw [Nat.pow_add]; exact Nat.mul_le_mul_right _ h1
    have b : m * 2 ^ j < 2 ^ (f.p + j) := by rw [Nat.pow_add]; exact Nat.mul_lt_mul_of_pos_right h2 (Nat.two_pow_pos _)
    have := bln_eq a (by rw [show f.p - 1 + j + 1 = f.p + j by omega]; exact b)
    omega
  have hle : m ≤ m * 2 ^ j := Nat.le_mul_of_pos_right _ (Nat.two_pow_pos _)
  unfold numN
  rw [if_neg (by omega), e, show f.p + j - f.p = j by omega, Nat.mul_mod_left]
  have h3 : m * 2 ^ j ≤ topN f := by
    unfold topN
    exact Nat.mul_le_mul (by omega) (Nat.pow_le_pow_right (by decide) hj)
  rw [decide_eq_true h3]
  rfl
theorem num_zero (f : Form) : numN f 0 = true := by
  unfold numN
  rw [if_pos (nrmN_pos f)]
  rfl
theorem num_least {f : Form} (ok : f.Ok) : numN f (if f.g = true then 1 else nrmN f) = true := by
  have hn := nrmN_pos f
  have p4 := ok.p4
  cases hg : f.g
  · rw [if_neg Bool.false_ne_true]
    have := num_scaled ok (m := nrmN f) (j := 0) (Nat.le_refl _) (Nat.pow_lt_pow_right (by decide) (by omega)) (Nat.zero_le _)
    simpa using this
  · rw [if_pos rfl]
    unfold numN
    have h2 : 1 < nrmN f := by
      have : 2 ^ 3 ≤ nrmN f := Nat.pow_le_pow_right (by decide) (by omega)
      omega
    rw [if_pos h2, hg]
    rfl
theorem num_top {f : Form} (ok : f.Ok) : numN f (topN f) = true := by
  have p4 := ok.p4
  have hp : 2 ^ f.p = 2 * 2 ^ (f.p - 1) := by rw [← Nat.pow_succ']; congr 1; omega
  have h2 := Nat.two_pow_pos (f.p - 1)
  exact num_scaled ok (m := 2 ^ f.p - 1) (j := f.e) (by unfold nrmN; omega) (by omega) (Nat.le_refl _)
theorem num_sub {f : Form} (hg : f.g = true) {m : Nat} (h : m < nrmN f) : numN f m = true := by
  unfold numN
  rw [if_pos h, hg, Bool.or_true]
end Fx

set_option Elab.async false
set_option linter.all false
set_option maxRecDepth 100000
set_option exponentiation.threshold 5000
namespace Fx
open PySem Dl
/-- all numbers of a format from -n on, m of them, by units -/
def numsFrom (f : Form) (lo : Int) (m : Nat) : List Int := ((List.range m).map fun i : Nat => lo + (i : Int)).filter (isNum f)
def nums (f : Form) : List Int := numsFrom f (-(topN f : Int)) (2 * topN f + 1)
theorem mem_nums {f : Form} {x : Int} : x ∈ nums f ↔ x.natAbs ≤ topN f ∧ isNum f x = true := by
  unfold nums numsFrom
  rw [List.mem_filter, List.mem_map]
  constructor
  · rintro ⟨⟨i, h1, h2⟩, h3⟩
    rw [List.mem_range] at h1
    exact ⟨by omega, h3⟩
  · rintro ⟨h1, h2⟩
    exact ⟨⟨(x + topN f).toNat, by rw [List.mem_range]; omega, by omega⟩, h2⟩
/-- with the low exponent left out: what the small formats' lists depend on -/
def small (p e : Nat) (g : Bool) : Form := ⟨p, 0, e, .up, g, true⟩
theorem numN_congr {f f' : Form} (hp : f.p = f'.p) (he : f.e = f'.e) (hg : f.g = f'.g) (s : Nat) : numN f s = numN f' s := by
  unfold numN nrmN topN
  rw [hp, he, hg]
theorem nums_congr {f f' : Form} (hp : f.p = f'.p) (he : f.e = f'.e) (hg : f.g = f'.g) : nums f = nums f' := by
  unfold nums numsFrom
  have h1 : topN f = topN f' := by unfold topN; rw [hp, he]
  have h2 : isNum f = isNum f' := by funext x; exact numN_congr hp he hg _
  rw [h1, h2]
/-- what is to be seen of a list of all numbers -/
def upOk (f : Form) : List Int → Bool
  | [] => true
  | [x] => rnd f (x + 1) 1 == .pinf
  | x :: y :: r => (rnd f (x + 1) 1 == .fin y) && upOk f (y :: r)
def seen (f : Form) : Bool :=
  let l := nums f
  (l.length : Int) == 2 * (((f.e : Int) + 1) * nrm f + (if f.g = true then nrm f - 1 else 0)) + 1 && (l.getLast? == some (top f)) && upOk f l
theorem seen_all : ∀ p ∈ [4, 5, 6], ∀ e ∈ [0, 1, 2, 3], ∀ g : Bool, seen (small p e g) = true := by decide +kernel
theorem upOk_get {f : Form} : ∀ {l : List Int} {k : Nat} {u : Int}, upOk f l = true → l[k]? = some u → rnd f (u + 1) 1 = match l[k + 1]? with
    | some y => .fin y
    | none => .pinf
  | [], k, u, _, h => by simp at h
  | [x], 0, u, h1, h2 => by
    have e : x = u := Option.some.inj h2
    subst e
    exact eq_of_beq h1
  | [x], k + 1, u, _, h => by simp at h
  | x :: y :: r, 0, u, h1, h2 => by
    have e : x = u := Option.some.inj h2
    subst e
    have h1' : ((rnd f (x + 1) 1 == .fin y) && upOk f (y :: r)) = true := h1
    rw [Bool.and_eq_true] at h1'
    exact eq_of_beq h1'.1
  | x :: y :: r, k + 1, u, h1, h2 => by
    have h1' : ((rnd f (x + 1) 1 == .fin y) && upOk f (y :: r)) = true := h1
    rw [Bool.and_eq_true] at h1'
    exact upOk_get (l := y :: r) (k := k) h1'.2 h2
structure Seen (f : Form) : Prop where
  len : ((nums f).length : Int) = 2 * (((f.e : Int) + 1) * nrm f + (if f.g = true then nrm f - 1 else 0)) + 1
  last : (nums f).getLast? = some (top f)
  up : ∀ (k : Nat) (u : Int), (nums f)[k]? = some u → rnd { f with mode := .up, inf := true } (u + 1) 1 = match (nums f)[k + 1]? with
    | some y => .fin y
    | none => .pinf
theorem seen_of {f : Form} (ok : f.Ok) (hp : f.p ≤ 6) (he : f.e ≤ 3) : Seen f := by
  have p4 := ok.p4
  have h := seen_all f.p (by simp; omega) f.e (by simp; omega) f.g
  have hn : nums f = nums (small f.p f.e f.g) := nums_congr rfl rfl rfl
  unfold seen at h
  simp only [Bool.and_eq_true] at h
  obtain ⟨⟨h1, h2⟩, h3⟩ := h
  refine ⟨?_, ?_, fun k u hk => ?_⟩
  · rw [hn]; exact eq_of_beq h1
  · rw [hn]; exact eq_of_beq h2
  · rw [hn] at hk ⊢
    have e : rnd { f with mode := .up, inf := true } (u + 1) 1 = rnd (small f.p f.e f.g) (u + 1) 1 := rfl
    rw [e]
    exact upOk_get h3 hk
theorem least_le {f : Form} {u : Int} (h : isNum f u = true) (hu : 0 < u) : (if f.g = true then 1 else nrm f) ≤ u := by
  split
  · omega
  · rename_i hg
    unfold isNum numN at h
    rw [nrm_cast]
    split at h
    · have : (u.natAbs == 0) = false := beq_eq_false_iff_ne.mpr (by omega)
      rw [this, Bool.false_or] at h
      exact absurd h hg
    · omega
theorem rng_filter (f : Form) (lo : Int) (n : Nat) : ((rngD lo n).filter fun d => match d with
    | .int x => isNum f x
    | _ => false).map id = (numsFrom f lo n).map .int := by
  unfold rngD numsFrom
  rw [List.map_id, List.filter_map, List.filter_map, List.map_map]
  rfl
/-- a pair's number-ness, as the law says it -/
theorem st_law {f : Form} (ok : f.Ok) {n k : Int} (hd : dyB (.tuple [.int n, .int k]) = true) :
    stB f (.tuple [.int n, .int k]) = (PyData.eqv (.tuple [.int n, .int k]) (.tuple [.int 0, .int 0]) || (decide (f.low ≤ k) && (decide (k < 90) && isNum f (n * 2 ^ (max 0 (k - f.low)).toNat)))) := by
  have e0 : PyData.eqv (.tuple [.int n, .int k]) (.tuple [.int 0, .int 0]) = (decide (n = 0) && decide (k = 0)) := by
    have : PyData.eqv (.tuple [.int n, .int k]) (.tuple [.int 0, .int 0]) = ((n == 0) && ((k == 0) && true)) := rfl
    rw [this, Bool.and_true, Bool.beq_eq_decide_eq, Bool.beq_eq_decide_eq]
  rw [e0]
  have hz : n = 0 → k = 0 := by
    intro z
    subst z
    unfold dyB at hd
    simp only [Bool.and_eq_true, Bool.or_eq_true, decide_eq_true_eq] at hd
    have := hd.2.2
    omega
  have lo := ok.lo
  have hi := ok.hi
  show (decide (n = 0) || (decide (f.low ≤ k) && isNum f (n * 2 ^ (k - f.low).toNat))) = _
  by_cases h0 : n = 0
  · rw [decide_eq_true h0, decide_eq_true (hz h0)]; rfl
  · rw [decide_eq_false h0, Bool.false_or, Bool.false_and, Bool.false_or]
    by_cases h1 : f.low ≤ k
    · rw [decide_eq_true h1, Bool.true_and, Bool.true_and, show max 0 (k - f.low) = k - f.low by omega]
      by_cases h2 : k < 90
      · rw [decide_eq_true h2, Bool.true_and]
      · rw [decide_eq_false h2, Bool.false_and]
        cases hn : isNum f (n * 2 ^ (k - f.low).toNat)
        · rfl
        · have hl := isNum_lt ok hn
          rw [Int.natAbs_mul, Int.natAbs_pow] at hl
          have : 2 ^ 30 ≤ n.natAbs * 2 ^ (k - f.low).toNat := by
            have a : 1 ≤ n.natAbs := by omega
            have b : 2 ^ 30 ≤ 2 ^ (k - f.low).toNat := Nat.pow_le_pow_right (by decide) (by omega)
            calc 2 ^ 30 ≤ 2 ^ (k - f.low).toNat := b
              _ = 1 * 2 ^ (k - f.low).toNat := (Nat.one_mul _).symm
              _ ≤ n.natAbs * 2 ^ (k - f.low).toNat := Nat.mul_le_mul_right _ a
          have hl' : n.natAbs * 2 ^ (k - f.low).toNat < 2 ^ 30 := hl
          omega
    · rw [decide_eq_false h1]; rfl
end Fx

set_option Elab.async false
set_option linter.all false
set_option maxRecDepth 100000
set_option exponentiation.threshold 5000
/-! Fx: the theory of the rounding: identity on numbers, monotone, results are numbers -/
namespace Fx
open PySem Dl
/-- the unbounded format's numbers, without their sign -/
def gr (f : Form) (g : Nat) : Prop := (g < nrmN f → g = 0 ∨ f.g = true) ∧ g % 2 ^ (bln g - f.p) = 0
theorem gr_zero (f : Form) : gr f 0 := ⟨fun _ => .inl rfl, by simp⟩
theorem gr_nrm {f : Form} (hp : 1 ≤ f.p) : gr f (nrmN f) := by
  refine ⟨fun h => absurd h (Nat.lt_irrefl _), ?_⟩
  unfold nrmN
  rw [bln_pow, show f.p - 1 + 1 - f.p = 0 by omega, Nat.pow_zero, Nat.mod_one]
theorem num_gr {f : Form} {s : Nat} (h : numN f s = true) : gr f s := by
  unfold numN at h
  split at h
  · rename_i h1
    have e : bln s - f.p = 0 := by
      have : s < 2 ^ f.p := Nat.lt_of_lt_of_le h1 (Nat.pow_le_pow_right (by decide) (by omega))
      have := bln_le_of this; omega
    refine ⟨fun _ => ?_, by rw [e, Nat.pow_zero, Nat.mod_one]⟩
    rw [Bool.or_eq_true] at h
    rcases h with h | h
    · exact .inl (by simpa using h)
    · exact .inr h
  · rename_i h1
    simp only [Bool.and_eq_true, decide_eq_true_eq, beq_iff_eq] at h
    exact ⟨fun z => absurd z h1, h.2⟩
theorem gr_num {f : Form} {s : Nat} (h : gr f s) (hs : s ≤ topN f) : numN f s = true := by
  unfold numN
  split
  · rename_i h1
    rcases h.1 h1 with e | e
    · rw [e]; rfl
    · rw [e, Bool.or_true]
  · rw [decide_eq_true hs, h.2]; rfl
theorem nb_lt (f : Form) (w : Nat) : w < (nb f w).2 := by
  unfold nb
  split
  · rename_i h; exact h.1
  · show w < w - w % 2 ^ (bln w - f.p) + 2 ^ (bln w - f.p)
    have p0 : 0 < 2 ^ (bln w - f.p) := Nat.two_pow_pos _
    have := Nat.mod_lt w p0
    have := Nat.mod_le w (2 ^ (bln w - f.p))
    omega
theorem goOut_mono {m : Mode} {neg : Bool} {x y x' y' : Int} {im : Nat} (h1 : y < x → y' < x') (h2 : x = y → y' ≤ x') (h : goOut m neg x y im = true) : goOut m neg x' y' im = true := by
  cases m
  case zero => exact h
  case down => exact h
  case up => exact h
  all_goals
    unfold goOut at h ⊢
    simp only at h ⊢
    by_cases e : x = y
    · have := h2 e
      by_cases e' : x' = y'
      · simp [e] at h; simp [e']; try exact h
      · simp only [ne_eq, e', not_false_eq_true, if_true, decide_eq_true_eq]; omega
    · have := h1
      simp only [ne_eq, e, not_false_eq_true, if_true, decide_eq_true_eq] at h
      have := h1 h
      have e' : x' ≠ y' := by omega
      simp only [ne_eq, e', not_false_eq_true, if_true, decide_eq_true_eq]; exact this
/-- the neighbours of w: numbers, and none lies between -/
theorem nb_gr {f : Form} (hp : 1 ≤ f.p) (w : Nat) : gr f (nb f w).1 ∧ gr f (nb f w).2 ∧ ∀ g, gr f g → (g ≤ w → g ≤ (nb f w).1) ∧ (w < g → (nb f w).2 ≤ g) := by
  unfold nb
  by_cases h0 : w < nrmN f ∧ f.g = false
  · rw [if_pos h0]
    refine ⟨gr_zero f, gr_nrm hp, fun g hg => ⟨fun h => ?_, fun h => ?_⟩⟩
    · rcases hg.1 (by omega) with e | e
      · omega
      · rw [h0.2] at e; cases e
    · show nrmN f ≤ g
      by_cases h1 : g < nrmN f
      · rcases hg.1 h1 with e | e
        · omega
        · rw [h0.2] at e; cases e
      · omega
  · rw [if_neg h0]
    show gr f (w - w % 2 ^ (bln w - f.p)) ∧ gr f (w - w % 2 ^ (bln w - f.p) + 2 ^ (bln w - f.p)) ∧ _
    have hgr : ∀ g, g < nrmN f → w < nrmN f → f.g = true := fun g h1 h2 => by
      cases hh : f.g
      · exact absurd ⟨h2, hh⟩ h0
      · rfl
    by_cases hs : bln w ≤ f.p
    · -- the step is 1
      have e : bln w - f.p = 0 := by omega
      rw [e, Nat.pow_zero, Nat.mod_one, Nat.sub_zero]
      have hw : w < 2 ^ f.p := Nat.lt_of_lt_of_le (bln_lt w) (Nat.pow_le_pow_right (by decide) hs)
      have small : ∀ g, g ≤ w → (g < nrmN f → g = 0 ∨ f.g = true) → gr f g := fun g h1 h2 => ⟨h2, by
        have := bln_le_of (show g < 2 ^ f.p by omega)
        rw [show bln g - f.p = 0 by omega, Nat.pow_zero, Nat.mod_one]⟩
      refine ⟨small w (Nat.le_refl _) (fun h => .inr (hgr w h h)), ?_, fun g hg => ⟨fun h => h, fun h => h⟩⟩
      refine ⟨fun h => .inr (hgr w (by omega) (by omega)), ?_⟩
      by_cases h2 : w + 1 < 2 ^ f.p
      · have := bln_le_of h2
        rw [show bln (w + 1) - f.p = 0 by omega, Nat.pow_zero, Nat.mod_one]
      · have h3 : w + 1 = 2 ^ f.p := by omega
        rw [h3, bln_pow, show f.p + 1 - f.p = 1 by omega, Nat.pow_one]
        rw [show f.p = f.p - 1 + 1 by omega, Nat.pow_succ, Nat.mul_mod_left]
    · -- L bits, a step of 2^(L - p)
      obtain ⟨L, hL⟩ : ∃ L, bln w = L + 1 := ⟨bln w - 1, by omega⟩
      have w1 : 2 ^ L ≤ w := by
        have := bln_le (n := w) (by intro z; subst z; rw [show bln 0 = 0 from rfl] at hL; omega)
        rw [hL] at this; exact this
      have w2 : w < 2 ^ (L + 1) := by have := bln_lt w; rw [hL] at this; exact this
      rw [hL]
      generalize hk : L + 1 - f.p = k
      have hkL : k ≤ L := by omega
      have p0 : 0 < 2 ^ k := Nat.two_pow_pos _
      have eL : 2 ^ L = 2 ^ (L - k) * 2 ^ k := by rw [← Nat.pow_add]; congr 1; omega
      have eL1 : 2 ^ (L + 1) = 2 ^ (L + 1 - k) * 2 ^ k := by rw [← Nat.pow_add]; congr 1; omega
      have ei : w - w % 2 ^ k = w / 2 ^ k * 2 ^ k := by
        have := Nat.div_add_mod w (2 ^ k)
        rw [Nat.mul_comm] at this
        omega
      have hi1 : 2 ^ L ≤ w / 2 ^ k * 2 ^ k := by
        rw [eL]
        refine Nat.mul_le_mul_right _ ?_
        rw [Nat.le_div_iff_mul_le p0, ← eL]; exact w1
      have hi2 : w / 2 ^ k * 2 ^ k ≤ w := Nat.div_mul_le_self _ _
      have ho1 : w < w / 2 ^ k * 2 ^ k + 2 ^ k := by
        have := Nat.div_add_mod w (2 ^ k)
        have := Nat.mod_lt w p0
        rw [Nat.mul_comm] at *
        omega
      have ho2 : w / 2 ^ k * 2 ^ k + 2 ^ k ≤ 2 ^ (L + 1) := by
        rw [eL1, ← Nat.succ_mul]
        refine Nat.mul_le_mul_right _ ?_
        have : w / 2 ^ k < 2 ^ (L + 1 - k) := by
          rw [Nat.div_lt_iff_lt_mul p0, ← eL1]; exact w2
        omega
      rw [ei]
      have hnrm : nrmN f ≤ 2 ^ L := Nat.pow_le_pow_right (by decide) (by omega)
      have grm : ∀ m, 2 ^ L ≤ m * 2 ^ k → m * 2 ^ k < 2 ^ (L + 1) → gr f (m * 2 ^ k) := fun m h1 h2 => ⟨fun h => absurd h (by omega), by
        rw [bln_eq h1 h2, hk, Nat.mul_mod_left]⟩
      refine ⟨grm _ hi1 (by omega), ?_, fun g hg => ?_⟩
      · by_cases h3 : w / 2 ^ k * 2 ^ k + 2 ^ k < 2 ^ (L + 1)
        · rw [← Nat.succ_mul] at h3 ⊢
          exact grm _ (by rw [Nat.succ_mul]; omega) h3
        · have h4 : w / 2 ^ k * 2 ^ k + 2 ^ k = 2 ^ (L + 1) := by omega
          rw [h4]
          refine ⟨fun h => absurd h (by omega), ?_⟩
          rw [bln_pow]
          have : 2 ^ (L + 1 + 1 - f.p) ∣ 2 ^ (L + 1) := Nat.pow_dvd_pow 2 (by omega)
          exact Nat.mod_eq_zero_of_dvd this
      · have mult : 2 ^ L ≤ g → g < 2 ^ (L + 1) → ∃ m, g = m * 2 ^ k := fun h1 h2 => by
          have h3 := hg.2
          rw [bln_eq h1 h2, hk] at h3
          exact ⟨g / 2 ^ k, by
            have := Nat.div_add_mod g (2 ^ k)
            rw [Nat.mul_comm] at this
            omega⟩
        constructor
        · intro h
          by_cases h1 : 2 ^ L ≤ g
          · obtain ⟨m, rfl⟩ := mult h1 (by omega)
            refine Nat.mul_le_mul_right _ ?_
            rw [Nat.le_div_iff_mul_le p0]; exact h
          · omega
        · intro h
          by_cases h1 : g < 2 ^ (L + 1)
          · obtain ⟨m, rfl⟩ := mult (by omega) h1
            rw [← Nat.succ_mul]
            refine Nat.mul_le_mul_right _ ?_
            have : w / 2 ^ k < m := by
              rw [Nat.div_lt_iff_lt_mul p0]; exact h
            omega
          · omega
/-- a number at or below the fraction is at or below its rounding; one at or above, at or above -/
theorem mag_ge {f : Form} (hp : 1 ≤ f.p) {neg : Bool} {a b g : Nat} (hb : 0 < b) (hg : gr f g) (h : g * b ≤ a) : g ≤ mag f neg a b := by
  obtain ⟨_, _, h3⟩ := nb_gr hp (a / b)
  obtain ⟨n1, n2, _⟩ := nb_le f hp (a / b)
  have : g ≤ (nb f (a / b)).1 := (h3 g hg).1 ((Nat.le_div_iff_mul_le hb).mpr h)
  unfold mag
  split
  · exact this
  · split <;> omega
theorem mag_le_gr {f : Form} (hp : 1 ≤ f.p) {neg : Bool} {a b g : Nat} (hb : 0 < b) (hg : gr f g) (h : a ≤ g * b) : mag f neg a b ≤ g := by
  obtain ⟨_, _, h3⟩ := nb_gr hp (a / b)
  obtain ⟨n1, n2, _⟩ := nb_le f hp (a / b)
  have hq : a / b ≤ g := by
    have := Nat.div_le_div_right (c := b) h
    rw [Nat.mul_div_cancel _ hb] at this
    exact this
  unfold mag
  by_cases he : a = (nb f (a / b)).1 * b
  · rw [if_pos he]; omega
  · rw [if_neg he]
    have hlt : a / b < g := by
      rcases Nat.lt_or_ge (a / b) g with h | h'
      · exact h
      · exfalso
        have e : a / b = g := by omega
        have h4 := (h3 g hg).1 (by omega)
        have h5 : (nb f (a / b)).1 = g := by omega
        have h6 : g * b ≤ a := by rw [← e]; exact Nat.div_mul_le_self _ _
        apply he
        rw [h5]; omega
    have := (h3 g hg).2 hlt
    split <;> omega
theorem mag_gr {f : Form} (hp : 1 ≤ f.p) {neg : Bool} {a b : Nat} : gr f (mag f neg a b) := by
  obtain ⟨h1, h2, _⟩ := nb_gr hp (a / b)
  unfold mag
  split
  · exact h1
  · split
    · exact h2
    · exact h1
theorem mag_num {f : Form} (hp : 1 ≤ f.p) {neg : Bool} {g b : Nat} (hb : 0 < b) (hg : gr f g) : mag f neg (g * b) b = g :=
  Nat.le_antisymm (mag_le_gr hp hb hg (Nat.le_refl _)) (mag_ge hp hb hg (Nat.le_refl _))
/-- the larger fraction rounds to the larger number -/
theorem mag_mono {f : Form} (hp : 1 ≤ f.p) {neg : Bool} {a b a' b' : Nat} (hb : 0 < b) (hb' : 0 < b') (h : a * b' ≤ a' * b) : mag f neg a b ≤ mag f neg a' b' := by
  -- either a number lies between the two, or both lie in one gap
  by_cases hc : ∃ g, gr f g ∧ a ≤ g * b ∧ g * b' ≤ a'
  · obtain ⟨g, hg, h1, h2⟩ := hc
    exact Nat.le_trans (mag_le_gr hp hb hg h1) (mag_ge hp hb' hg h2)
  · obtain ⟨g1, g2, g3⟩ := nb_gr hp (a / b)
    obtain ⟨k1, k2, k3⟩ := nb_gr hp (a' / b')
    obtain ⟨n1, n2, _⟩ := nb_le f hp (a / b)
    obtain ⟨m1, m2, _⟩ := nb_le f hp (a' / b')
    have hdd : a / b ≤ a' / b' := by
      rw [Nat.le_div_iff_mul_le hb']
      have q := Nat.div_mul_le_self a b
      have : a / b * b' * b ≤ a' * b := by
        calc a / b * b' * b = a / b * b * b' := by rw [Nat.mul_right_comm]
          _ ≤ a * b' := Nat.mul_le_mul_right _ q
          _ ≤ a' * b := h
      exact Nat.le_of_mul_le_mul_right this hb
    have e1 : (nb f (a / b)).1 = (nb f (a' / b')).1 := by
      have u1 : (nb f (a / b)).1 ≤ (nb f (a' / b')).1 := (k3 _ g1).1 (by omega)
      rcases Nat.lt_or_ge (nb f (a / b)).1 (nb f (a' / b')).1 with hl | hl
      · exfalso
        apply hc
        refine ⟨(nb f (a' / b')).1, k1, ?_, ?_⟩
        · have : a / b < (nb f (a' / b')).1 := by
            rcases Nat.lt_or_ge (a / b) (nb f (a' / b')).1 with h | h
            · exact h
            · have := (g3 _ k1).1 h; omega
          exact Nat.le_of_lt ((Nat.div_lt_iff_lt_mul hb).mp this)
        · exact (Nat.le_div_iff_mul_le hb').mp m1
      · omega
    have e2 : (nb f (a / b)).2 = (nb f (a' / b')).2 := by
      have := nb_lt f (a' / b')
      have u1 : (nb f (a / b)).2 ≤ (nb f (a' / b')).2 := (g3 _ k2).2 (by omega)
      rcases Nat.lt_or_ge (nb f (a / b)).2 (nb f (a' / b')).2 with hl | hl
      · exfalso
        apply hc
        refine ⟨(nb f (a / b)).2, g2, ?_, ?_⟩
        · exact Nat.le_of_lt ((Nat.div_lt_iff_lt_mul hb).mp (nb_lt f _))
        · have : (nb f (a / b)).2 ≤ a' / b' := by
            rcases Nat.lt_or_ge (a' / b') (nb f (a / b)).2 with h | h
            · have := (k3 _ g2).2 h; omega
            · exact h
          exact (Nat.le_div_iff_mul_le hb').mp this
      · omega
    unfold mag
    rw [← e1, ← e2]
    have hib : (nb f (a / b)).1 * b ≤ a := Nat.le_trans (Nat.mul_le_mul_right _ n1) (Nat.div_mul_le_self a b)
    generalize (nb f (a / b)).1 = i at *
    generalize (nb f (a / b)).2 = o at *
    by_cases c1 : a = i * b
    · rw [if_pos c1]
      split
      · exact Nat.le_refl _
      · split <;> omega
    · rw [if_neg c1]
      have c2 : a' ≠ i * b' := by
        intro e
        apply c1
        rw [e] at h
        have h2 : a * b' ≤ i * b * b' := by rw [Nat.mul_right_comm]; exact h
        have := Nat.le_of_mul_le_mul_right h2 hb'
        omega
      rw [if_neg c2]
      by_cases c3 : goOut f.mode neg (2 * (a : Int)) (((i : Int) + o) * b) (i / (o - i)) = true
      · rw [if_pos c3, if_pos (goOut_mono (fun q => ?_) (fun q => ?_) c3)]
        · exact Nat.le_refl _
        · have q' : (i + o) * b < 2 * a := by exact_mod_cast q
          have : (i + o) * b' < 2 * a' := by
            have h3 : (i + o) * b * b' < 2 * a * b' := Nat.mul_lt_mul_of_pos_right q' hb'
            have h4 : 2 * a * b' ≤ 2 * a' * b := by rw [Nat.mul_assoc, Nat.mul_assoc]; exact Nat.mul_le_mul_left _ h
            have h5 : (i + o) * b' * b < 2 * a' * b := by rw [Nat.mul_right_comm]; omega
            exact Nat.lt_of_mul_lt_mul_right h5
          exact_mod_cast this
        · have q' : 2 * a = (i + o) * b := by exact_mod_cast q
          have : (i + o) * b' ≤ 2 * a' := by
            have h4 : 2 * a * b' ≤ 2 * a' * b := by rw [Nat.mul_assoc, Nat.mul_assoc]; exact Nat.mul_le_mul_left _ h
            rw [q'] at h4
            have h5 : (i + o) * b' * b ≤ 2 * a' * b := by rw [Nat.mul_right_comm]; omega
            exact Nat.le_of_mul_le_mul_right h5 hb
          exact_mod_cast this
      · rw [if_neg c3]
        split <;> omega
/-- what is not above the largest number rounds to a finite number -/
theorem top_gr {f : Form} (hp : 1 ≤ f.p) : gr f (topN f) := by
  have h1 : 1 ≤ 2 ^ f.p := Nat.one_le_two_pow
  have hge : nrmN f ≤ topN f := by
    unfold nrmN topN
    have h2 : 2 ^ (f.p - 1) ≤ 2 ^ f.p - 1 := by
      rw [show f.p = f.p - 1 + 1 by omega, Nat.pow_succ]
      have : 1 ≤ 2 ^ (f.p - 1) := Nat.one_le_two_pow
      rw [Nat.add_sub_cancel]; omega
    exact Nat.le_trans h2 (Nat.le_mul_of_pos_right _ (Nat.two_pow_pos _))
  refine ⟨fun h => absurd h (by omega), ?_⟩
  unfold topN
  have hb : bln ((2 ^ f.p - 1) * 2 ^ f.e) ≤ f.p + f.e := by
    apply bln_le_of
    rw [Nat.pow_add]
    exact Nat.mul_lt_mul_of_pos_right (by omega) (Nat.two_pow_pos _)
  have hd : 2 ^ (bln ((2 ^ f.p - 1) * 2 ^ f.e) - f.p) ∣ 2 ^ f.e := Nat.pow_dvd_pow 2 (by omega)
  exact Nat.mod_eq_zero_of_dvd (Nat.dvd_trans hd (Nat.dvd_mul_left _ _))
theorem rnd_fin {f : Form} (hp : 1 ≤ f.p) {t : Int} {b : Nat} (hb : 0 < b) (h : t.natAbs ≤ topN f * b) :
    rnd f t b = .fin (if t < 0 then -(mag f (decide (t < 0)) t.natAbs b : Int) else mag f (decide (t < 0)) t.natAbs b) := by
  have h1 := mag_le_gr (neg := decide (t < 0)) hp hb (top_gr hp) h
  unfold rnd bnd
  rw [if_neg (by omega)]
  by_cases c : t < 0 <;> simp [c]
theorem rnd_num {f : Form} (hp : 1 ≤ f.p) {u : Int} (h : isNum f u = true) {b : Nat} (hb : 0 < b) (hu : u.natAbs ≤ topN f) : rnd f (u * b) b = .fin u := by
  rw [rnd_frac (b' := 1) (t' := u) hb (by decide) (by simp)]
  rw [rnd_fin hp (by decide) (by simpa using hu)]
  have := mag_num (neg := decide (u < 0)) hp (b := 1) (by decide) (num_gr h)
  rw [Nat.mul_one] at this
  rw [this]
  congr 1
  split <;> omega
end Fx

set_option Elab.async false
set_option linter.all false
set_option maxRecDepth 100000
set_option maxHeartbeats 4000000
set_option exponentiation.threshold 5000
/-! Fx: results as data and as tests; the fourteen rules -/
namespace Fx
open PySem PySem.Spec PyProof.Rows L2 Dl
theorem numN_zero (f : Form) : isNum f 0 = true := by
  unfold isNum numN
  rw [if_pos (by show 0 < nrmN f; exact nrmN_pos f)]
  rfl
theorem isNum_top {f : Form} (hp : 1 ≤ f.p) {u : Int} (h : isNum f u = true) : u.natAbs ≤ topN f := by
  have h1 : 1 ≤ 2 ^ f.p := Nat.one_le_two_pow
  have hge : nrmN f ≤ topN f := by
    unfold nrmN topN
    have h2 : 2 ^ (f.p - 1) ≤ 2 ^ f.p - 1 := by
      rw [show f.p = f.p - 1 + 1 by omega, Nat.pow_succ]
      have : 1 ≤ 2 ^ (f.p - 1) := Nat.one_le_two_pow
      rw [Nat.add_sub_cancel]; omega
    exact Nat.le_trans h2 (Nat.le_mul_of_pos_right _ (Nat.two_pow_pos _))
  unfold isNum numN at h
  split at h
  · omega
  · simp only [Bool.and_eq_true, decide_eq_true_eq] at h
    exact h.1
theorem rnd_ex {f : Form} (hp : 1 ≤ f.p) {t : Int} {b : Nat} (hb : 0 < b) (h : t.natAbs ≤ topN f * b) : ∃ u, rnd f t b = .fin u ∧ u.natAbs ≤ topN f :=
  ⟨_, rnd_fin hp hb h, rnd_le (rnd_fin hp hb h)⟩
theorem rnd_ninf {f : Form} {t : Int} {b : Nat} (h : 0 ≤ t) : rnd f t b ≠ .ninf := by
  unfold rnd bnd
  rw [show decide (t < 0) = false by simp; omega]
  split
  · split <;> exact fun z => by cases z
  · exact fun z => by cases z
theorem rnd_pinf {f : Form} {t : Int} {b : Nat} (h : t ≤ 0) : rnd f t b ≠ .pinf := by
  by_cases h0 : t = 0
  · subst h0; rw [rnd_zero]; exact fun z => by cases z
  unfold rnd bnd
  rw [show decide (t < 0) = true by simp; omega]
  split
  · split <;> exact fun z => by cases z
  · exact fun z => by cases z
/-- the rounding does not cross a number -/
theorem rnd_ge {f : Form} (hp : 1 ≤ f.p) {t g v : Int} {b : Nat} (hb : 0 < b) (hg : isNum f g = true) (h : g * b ≤ t) (e : rnd f t b = .fin v) : g ≤ v := by
  have ht := isNum_top hp hg
  by_cases n : t < 0
  · -- g is below 0 too
    have hg0 : g < 0 := by
      rcases (show g < 0 ∨ 0 ≤ g by omega) with z | z
      · exact z
      · have : 0 ≤ g * (b : Int) := Int.mul_nonneg z (by omega)
        omega
    have ha : t.natAbs ≤ g.natAbs * b := by
      have h2 : ((g.natAbs * b : Nat) : Int) = -(g * b) := by
        rw [Int.natCast_mul, Int.ofNat_natAbs_of_nonpos (by omega), Int.neg_mul]
      omega
    have hm := mag_le_gr (neg := true) hp hb (num_gr hg) ha
    unfold rnd bnd at e
    rw [show decide (t < 0) = true by simp [n], if_neg (by omega)] at e
    simp only [if_true, Res.fin.injEq] at e
    omega
  · rcases (show g < 0 ∨ 0 ≤ g by omega) with z | z
    · have : 0 ≤ v := by
        unfold rnd bnd at e
        rw [show decide (t < 0) = false by simp; omega] at e
        split at e
        · split at e
          · simp at e; omega
          · simp at e
        · simp at e; omega
      omega
    · have ha : g.natAbs * b ≤ t.natAbs := by
        have h2 : ((g.natAbs * b : Nat) : Int) = g * b := by
          rw [Int.natCast_mul, Int.natAbs_of_nonneg z]
        omega
      have hm := mag_ge (neg := false) hp hb (num_gr hg) ha
      unfold rnd bnd at e
      rw [show decide (t < 0) = false by simp; omega] at e
      split at e
      · split at e
        · simp at e; omega
        · simp at e
      · simp at e; omega
theorem rnd_le_num {f : Form} (hp : 1 ≤ f.p) {t g v : Int} {b : Nat} (hb : 0 < b) (hg : isNum f g = true) (h : t ≤ g * b) (e : rnd f t b = .fin v) : v ≤ g := by
  have ht := isNum_top hp hg
  by_cases n : t < 0
  · rcases (show g < 0 ∨ 0 ≤ g by omega) with z | z
    · have ha : g.natAbs * b ≤ t.natAbs := by
        have h2 : ((g.natAbs * b : Nat) : Int) = -(g * b) := by
          rw [Int.natCast_mul, Int.ofNat_natAbs_of_nonpos (by omega), Int.neg_mul]
        omega
      have hm := mag_ge (neg := true) hp hb (num_gr hg) ha
      unfold rnd bnd at e
      rw [show decide (t < 0) = true by simp [n]] at e
      split at e
      · split at e
        · simp at e; omega
        · simp at e
      · simp at e; omega
    · unfold rnd bnd at e
      rw [show decide (t < 0) = true by simp [n]] at e
      split at e
      · split at e
        · simp at e; omega
        · simp at e
      · simp at e; omega
  · have hg0 : 0 ≤ g := by
      rcases (show g < 0 ∨ 0 ≤ g by omega) with z | z
      · have : g * (b : Int) < 0 := Int.mul_neg_of_neg_of_pos z (by omega)
        omega
      · exact z
    have ha : t.natAbs ≤ g.natAbs * b := by
      have h2 : ((g.natAbs * b : Nat) : Int) = g * b := by
        rw [Int.natCast_mul, Int.natAbs_of_nonneg hg0]
      omega
    have hm := mag_le_gr (neg := false) hp hb (num_gr hg) ha
    unfold rnd bnd at e
    rw [show decide (t < 0) = false by simp; omega, if_neg (by omega)] at e
    simp at e
    omega
/-! ### the rules -/
def Res.bind (r : Res) (k : Int → Res) : Res := match r with | .fin u => k u | .pinf => .pinf | .ninf => .ninf
def Res.good (r : Res) (k : Int → Bool) : Bool := match r with | .fin u => k u | _ => false
def opp : Res → Res
  | .fin u => .fin (-u)
  | .pinf => .ninf
  | .ninf => .pinf
inductive Rule where
  | sumSign | zeroDiff | closeDiff | errTerm | fastErr | symm | midp | aver | addBack | group | absorb | third | halves | squares
  deriving DecidableEq
def Rule.s : Rule → Str
  | .sumSign => "sum sign" | .zeroDiff => "zero difference" | .closeDiff => "close difference" | .errTerm => "error term" | .fastErr => "fast error" | .symm => "symmetry" | .midp => "midpoint" | .aver => "average"
  | .addBack => "add back" | .group => "grouping" | .absorb => "absorption" | .third => "third" | .halves => "halves" | .squares => "squares"
def Rule.all : List Rule := [.sumSign, .zeroDiff, .closeDiff, .errTerm, .fastErr, .symm, .midp, .aver, .addBack, .group, .absorb, .third, .halves, .squares]
def Rule.ar : Rule → Nat
  | .group => 3
  | .third => 1 | .halves => 1 | .squares => 1
  | _ => 2
theorem dec_rule (r q : Rule) : decide (r.s = q.s) = decide (r = q) := by cases r <;> cases q <;> decide +kernel
theorem Rule.mem (r : Rule) : r ∈ Rule.all := by cases r <;> decide
/-- does a rule hold for numbers, in units -/
def fits2 (f : Form) (r : Rule) (x y : Int) : Bool := match r with
  | .sumSign => decide (y ≤ x) || !decide (rnd f (y - x) 1 = .fin 0)
  | .zeroDiff => !decide (rnd f (x - y) 1 = .fin 0) || decide (x = y)
  | .closeDiff => (decide (x ≤ 0) || (decide (y ≤ 0) || (decide (2 * y < x) || decide (2 * x < y)))) || decide (rnd f (x - y) 1 = .fin (x - y))
  | .errTerm => (rnd f (x + y) 1).good fun s => isNum f (x + y - s)
  | .fastErr => decide (x.natAbs < y.natAbs) || (rnd f (x + y) 1).good fun s => ((rnd f (s - x) 1).bind fun t => rnd f (y - t) 1).good fun e => decide (s + e = x + y)
  | .symm => decide (opp (rnd f (x + y) 1) = rnd f (-x + -y) 1)
  | .midp => !(decide (0 ≤ x) && decide (x ≤ y)) || ((rnd f (y - x) 1).bind fun d => (rnd f d 2).bind fun h => rnd f (x + h) 1).good fun m => decide (x ≤ m) && decide (m ≤ y)
  | .aver => (!(decide (0 ≤ x) && decide (x ≤ y)) || decide (top f < x + y)) || ((rnd f (x + y) 1).bind fun s => rnd f s 2).good fun m => decide (x ≤ m) && decide (m ≤ y)
  | .addBack => !(decide (0 ≤ y) && decide (y ≤ x)) || decide (((rnd f (x - y) 1).bind fun d => rnd f (d + y) 1) = .fin x)
  | .absorb => !decide (rnd f (x + y) 1 = .fin x) || decide (y = 0)
  | _ => false
def fits3 (f : Form) (x y z : Int) : Bool := (decide (min (min x y) z < 0) || decide (top f < x + y + z)) || ((rnd f (x + y) 1).bind fun a => rnd f (a + z) 1).good fun l => decide (((rnd f (y + z) 1).bind fun b => rnd f (x + b) 1) = .fin l)
def fits1 (f : Form) (r : Rule) (x : Int) : Bool := match r with
  | .third => (decide (x < 0) || decide (top f < 3 * x)) || decide (((rnd f (3 * x) 1).bind fun t => rnd f t 3) = .fin x)
  | .halves => decide (((rnd f x 2).bind fun h => rnd f (h + h) 1) = .fin x)
  | .squares => !decide (rndV f (x * x) 1 f.low = .fin 0) || decide (x = 0)
  | _ => false
def fits (f : Form) (r : Rule) : List Int → Bool
  | [x] => fits1 f r x
  | [x, y] => fits2 f r x y
  | [x, y, z] => fits3 f x y z
  | _ => false
/-! ### a result, or none -/
abbrev Opt := Option Res
def encO : Opt → PyData
  | none => .none
  | some r => encR r
def resV : Res → V
  | .fin u => .int u
  | .pinf => .str "inf"
  | .ninf => .str "-inf"
def optV : Opt → V
  | none => .non
  | some r => resV r
theorem sc_res (r : Res) : scV (encR r) = some (resV r) := by cases r <;> rfl
theorem sc_opt (o : Opt) : scV (encO o) = some (optV o) := by
  cases o with
  | none => rfl
  | some r => exact sc_res r
theorem scal_opt (o q : Opt) : scal (optV o) (optV q) = true := by
  rcases o with _ | (_ | _ | _) <;> rcases q with _ | (_ | _ | _) <;> rfl
theorem infs_ne : ("inf" : Str) ≠ ("-inf" : Str) := by decide +kernel
theorem optV_inj {o q : Opt} : optV o = optV q ↔ o = q := by
  constructor
  · intro h
    rcases o with _ | (u | _ | _) <;> rcases q with _ | (v | _ | _) <;> simp [optV, resV] at h ⊢
    · exact h
    · exact absurd h infs_ne
    · exact absurd h.symm infs_ne
  · intro h; rw [h]
theorem dec_opt (o q : Opt) : decide (optV o = optV q) = decide (o = q) := by
  rw [Bool.eq_iff_iff]; simp [optV_inj]
section
variable {F : Fm} {X : Cx} {δ : DE} {a b : Expr} {pos : Pos}
theorem vb_eqO {o q : Opt} (ha : VD F X a δ (encO o)) (hb : VD F X b δ (encO q)) : VB F X (.Compare a [.Eq] [b] pos) δ (decide (o = q)) := (vb_eqV ha hb (sc_opt _) (sc_opt _) (scal_opt _ _)).is (dec_opt _ _)
theorem vb_neO {o q : Opt} (ha : VD F X a δ (encO o)) (hb : VD F X b δ (encO q)) : VB F X (.Compare a [.NotEq] [b] pos) δ (!decide (o = q)) := (vb_neV ha hb (sc_opt _) (sc_opt _) (scal_opt _ _)).is (by rw [dec_opt])
theorem vd_eqO {o q : Opt} (ha : VD F X a δ (encO o)) (hb : VD F X b δ (encO q)) : VD F X (.Compare a [.Eq] [b] pos) δ (.bool (decide (o = q))) := (vd_eqV ha hb (sc_opt _) (sc_opt _) (scal_opt _ _)).is (by rw [dec_opt])
theorem vd_neO {o q : Opt} (ha : VD F X a δ (encO o)) (hb : VD F X b δ (encO q)) : VD F X (.Compare a [.NotEq] [b] pos) δ (.bool (!decide (o = q))) :=
  vd_cmp op_ne (nomark _) (by have := opd_ne (K := X.K) (sc_opt o) (sc_opt q) (scal_opt o q); rw [dec_opt] at this; exact this) ha hb
end
theorem dec_some (r q : Res) : decide ((some r : Opt) = some q) = decide (r = q) := by rw [Bool.eq_iff_iff]; simp
theorem fin_of {r : Res} (h : (!isInf r) = true) : ∃ u, r = .fin u := by
  cases r
  · exact ⟨_, rfl⟩
  · cases h
  · cases h
theorem good_and (r : Res) (k : Int → Bool) : (!isInf r && r.good k) = r.good k := by cases r <;> rfl
theorem sm {f : Form} (ok : f.Ok) {u : Int} (h : isNum f u = true) : u.natAbs < 2 ^ 1000 := pow_mono (isNum_lt ok h) (by decide)
theorem sm_r {f : Form} (ok : f.Ok) {t u : Int} {b : Nat} (h : rnd f t b = .fin u) : u.natAbs < 2 ^ 30 := Nat.lt_of_le_of_lt (rnd_le h) (topN_lt ok)
theorem sm_r2 {f : Form} (ok : f.Ok) {t u : Int} {b : Nat} (h : rnd f t b = .fin u) : u.natAbs < 2 ^ 1000 := pow_mono (sm_r ok h) (by decide)
theorem pow_dbl : (2 : Nat) ^ 1000 + 2 ^ 1000 < 2 ^ 1200 := by decide +kernel
theorem add_small {x y : Int} (hx : x.natAbs < 2 ^ 1000) (hy : y.natAbs < 2 ^ 1000) : (x + y).natAbs < 2 ^ 1200 := by
  have h := pow_dbl
  have := Int.natAbs_add_le x y
  exact Nat.lt_of_le_of_lt this (Nat.lt_trans (Nat.add_lt_add hx hy) h)
theorem sub_small {x y : Int} (hx : x.natAbs < 2 ^ 1000) (hy : y.natAbs < 2 ^ 1000) : (x - y).natAbs < 2 ^ 1200 := by
  rw [Int.sub_eq_add_neg]
  exact add_small hx (by rw [Int.natAbs_neg]; exact hy)
def A_chk2 (r : Rule) : List PyData → PyData → Prop := fun ds d => ∃ (f : Form) (x y : Int), f.Ok ∧ isNum f x = true ∧ isNum f y = true ∧ ds = [encF f, .int x, .int y] ∧ d = .bool (fits2 f r x y)
def A_chk1 (r : Rule) : List PyData → PyData → Prop := fun ds d => ∃ (f : Form) (x : Int), f.Ok ∧ isNum f x = true ∧ ds = [encF f, .int x] ∧ d = .bool (fits1 f r x)
def A_chk3 : List PyData → PyData → Prop := fun ds d => ∃ (f : Form) (x y z : Int), f.Ok ∧ isNum f x = true ∧ isNum f y = true ∧ isNum f z = true ∧ ds = [encF f, .int x, .int y, .int z] ∧ d = .bool (fits3 f x y z)
theorem fast_fin {f : Form} (ok : f.Ok) {x y s : Int} (hx : isNum f x = true) (hy : isNum f y = true) (h : ¬ x.natAbs < y.natAbs) (hs : rnd f (x + y) 1 = .fin s) : ∃ t e, rnd f (s - x) 1 = .fin t ∧ rnd f (y - t) 1 = .fin e := by
  have hp : 1 ≤ f.p := by have := ok.p4; omega
  have tx := isNum_top hp hx
  have ty := isNum_top hp hy
  have ts := rnd_le hs
  have z0 := numN_zero f
  have b1 : (s - x).natAbs ≤ topN f * 1 := by
    by_cases c : 0 ≤ x
    · have := rnd_ge hp (by decide) z0 (by omega) hs
      omega
    · have := rnd_le_num hp (by decide) z0 (by omega) hs
      omega
  obtain ⟨t, ht, _⟩ := rnd_ex hp (by decide) b1
  have b2 : (y - t).natAbs ≤ topN f * 1 := by
    by_cases c : 0 ≤ y
    · have := rnd_ge hp (by decide) hx (by omega) hs
      have := rnd_ge hp (by decide) z0 (by omega) ht
      omega
    · have := rnd_le_num hp (by decide) hx (by omega) hs
      have := rnd_le_num hp (by decide) z0 (by omega) ht
      omega
  obtain ⟨e, he, _⟩ := rnd_ex hp (by decide) b2
  exact ⟨t, e, ht, he⟩
/-! ### the law's own arithmetic: a result, or none -/
def smO (o : Opt) : Prop := ∀ u, o = some (.fin u) → u.natAbs < 2 ^ 1000
def sumO (f : Form) (a b : Opt) : Opt := match a, b with
  | some (.fin u), some (.fin v) => some (rnd f (u + v) 1)
  | _, _ => none
def partO (f : Form) (a : Opt) (n : Nat) : Opt := match a with
  | some (.fin u) => some (rnd f u n)
  | _ => none
def goodO : Opt → Bool
  | some (.fin _) => true
  | _ => false
theorem smO_rnd {f : Form} (ok : f.Ok) {t : Int} {b : Nat} : smO (some (rnd f t b)) := fun u h => by
  have h2 : rnd f t b = .fin u := by injection h
  exact sm_r2 ok h2
theorem smO_int {u : Int} (h : u.natAbs < 2 ^ 1000) : smO (some (.fin u)) := fun v e => by
  cases e; exact h
theorem smO_none : smO none := fun v e => by cases e
theorem smO_sum {f : Form} (ok : f.Ok) {a b : Opt} : smO (sumO f a b) := by
  unfold sumO
  split
  · exact smO_rnd ok
  · exact smO_none
theorem smO_part {f : Form} (ok : f.Ok) {a : Opt} {n : Nat} : smO (partO f a n) := by
  unfold partO
  split
  · exact smO_rnd ok
  · exact smO_none
theorem smO_opp {a : Opt} (h : smO a) : smO (a.map opp) := by
  intro u e
  rcases a with _ | (v | _ | _)
  · cases e
  · have e2 : -v = u := by injection e with e; injection e
    have := h v rfl
    rw [← e2, Int.natAbs_neg]; exact this
  · injection e with e; cases e
  · injection e with e; cases e
theorem good_fin {a : Opt} (h : goodO a = true) : ∃ u, a = some (.fin u) := by
  rcases a with _ | (u | _ | _)
  · cases h
  · exact ⟨u, rfl⟩
  · cases h
  · cases h
def eqSum (z : Int) : Res → Opt → Bool
  | .fin s, some (.fin e) => decide (s + e = z)
  | _, _ => true
theorem fast_law (f : Form) (x y : Int) (r : Res) : r.good (fun s => ((rnd f (s - x) 1).bind fun t => rnd f (y - t) 1).good fun e => decide (s + e = x + y)) =
    (goodO (some r) && (goodO (sumO f (some (.fin y)) ((sumO f (some r) (some (.fin (0 - x)))).map opp)) && eqSum (x + y) r (sumO f (some (.fin y)) ((sumO f (some r) (some (.fin (0 - x)))).map opp)))) := by
  cases r with
  | fin s =>
    show ((rnd f (s - x) 1).bind fun t => rnd f (y - t) 1).good (fun e => decide (s + e = x + y)) = (true && (goodO (sumO f (some (.fin y)) ((some (rnd f (s + (0 - x)) 1)).map opp)) && eqSum (x + y) (.fin s) (sumO f (some (.fin y)) ((some (rnd f (s + (0 - x)) 1)).map opp))))
    rw [show s + (0 - x) = s - x by omega]
    cases rnd f (s - x) 1 with
    | fin t =>
      show (rnd f (y - t) 1).good (fun e => decide (s + e = x + y)) = (true && (goodO (some (rnd f (y + -t) 1)) && eqSum (x + y) (.fin s) (some (rnd f (y + -t) 1))))
      rw [show y + -t = y - t by omega]
      cases rnd f (y - t) 1 <;> rfl
    | pinf => rfl
    | ninf => rfl
  | pinf => rfl
  | ninf => rfl
theorem group_law (f : Form) (x y z : Int) : (((rnd f (x + y) 1).bind fun a => rnd f (a + z) 1).good fun l => decide (((rnd f (y + z) 1).bind fun b => rnd f (x + b) 1) = .fin l)) =
    (goodO (sumO f (sumO f (some (.fin x)) (some (.fin y))) (some (.fin z))) && decide (sumO f (sumO f (some (.fin x)) (some (.fin y))) (some (.fin z)) = sumO f (some (.fin x)) (sumO f (some (.fin y)) (some (.fin z))))) := by
  show _ = (goodO (sumO f (some (rnd f (x + y) 1)) (some (.fin z))) && decide (sumO f (some (rnd f (x + y) 1)) (some (.fin z)) = sumO f (some (.fin x)) (some (rnd f (y + z) 1))))
  cases rnd f (x + y) 1 with
  | fin a =>
    show Res.good (rnd f (a + z) 1) _ = (goodO (some (rnd f (a + z) 1)) && decide (some (rnd f (a + z) 1) = sumO f (some (.fin x)) (some (rnd f (y + z) 1))))
    cases rnd f (a + z) 1 with
    | fin l =>
      show decide (((rnd f (y + z) 1).bind fun b => rnd f (x + b) 1) = .fin l) = (true && decide (some (Res.fin l) = sumO f (some (.fin x)) (some (rnd f (y + z) 1))))
      cases rnd f (y + z) 1 with
      | fin b =>
        show decide (rnd f (x + b) 1 = .fin l) = (true && decide ((some (Res.fin l) : Opt) = some (rnd f (x + b) 1)))
        rw [dec_some, Bool.true_and, Bool.eq_iff_iff]
        simp only [decide_eq_true_eq]
        exact eq_comm
      | pinf => rfl
      | ninf => rfl
    | pinf => rfl
    | ninf => rfl
  | pinf => rfl
  | ninf => rfl
theorem third_law (f : Form) (r : Res) (x : Int) : decide ((r.bind fun t => rnd f t 3) = .fin x) = decide (partO f (some r) 3 = some (.fin x)) := by
  cases r with
  | fin u => exact (dec_some _ _).symm
  | pinf => rfl
  | ninf => rfl
theorem halves_law (f : Form) (r : Res) (x : Int) : decide ((r.bind fun h => rnd f (h + h) 1) = .fin x) = decide (sumO f (some r) (some r) = some (.fin x)) := by
  cases r with
  | fin u => exact (dec_some _ _).symm
  | pinf => rfl
  | ninf => rfl
theorem nums_of {f : Form} : ∀ {ys : List PyData}, (∀ y ∈ ys, ∃ u : Int, isNum f u = true ∧ y = .int u) → ∃ us : List Int, ys = us.map .int ∧ ∀ u ∈ us, isNum f u = true
  | [], _ => ⟨[], rfl, by simp⟩
  | y :: ys, h => by
    obtain ⟨u, hu, rfl⟩ := h y (by simp)
    obtain ⟨us, rfl, h2⟩ := nums_of (ys := ys) fun z hz => h z (by simp [hz])
    exact ⟨u :: us, rfl, by simp; exact ⟨hu, h2⟩⟩
theorem us_cases {r : Rule} {us : List Int} (h : us.length = r.ar) : (r = .group ∧ ∃ x y z, us = [x, y, z]) ∨ (r.ar = 1 ∧ ∃ x, us = [x]) ∨ (r.ar = 2 ∧ ∃ x y, us = [x, y]) := by
  by_cases h1 : r.ar = 1
  · rw [h1] at h
    exact .inr (.inl ⟨h1, List.length_eq_one_iff.mp h⟩)
  by_cases h2 : r.ar = 2
  · rw [h2] at h
    match us, h with
    | [x, y], _ => exact .inr (.inr ⟨h2, x, y, rfl⟩)
  · have e : r = .group := by cases r <;> first | rfl | exact absurd rfl h1 | exact absurd rfl h2
    subst e
    match us, h with
    | [x, y, z], _ => exact .inl ⟨rfl, x, y, z, rfl⟩
theorem sort_int {ns l : List Int} (h : l.Perm ns) (s : l.Pairwise (· ≤ ·)) : l = ns.mergeSort (fun a b => decide (a ≤ b)) := by
  have h2 : (ns.mergeSort (fun a b => decide (a ≤ b))).Pairwise (fun a b => decide (a ≤ b) = true) := List.pairwise_mergeSort (fun a b c h1 h2 => by simp at *; omega) (fun a b => by simp; omega) ns
  refine List.Perm.eq_of_pairwise (le := fun a b : Int => a ≤ b) (fun a b _ _ h1 h2 => by omega) s (h2.imp fun h => by simpa using h) (h.trans (List.mergeSort_perm ns _).symm)
/-- the units of a value -/
def toU (f : Form) : PyData → PyData
  | .tuple [.int n, .int k] => .int (n * 2 ^ (k - f.low).toNat)
  | _ => .none
theorem toU_val (f : Form) (u : Int) : toU f (valD f u) = .int u := by
  unfold valD
  by_cases h0 : u = 0
  · rw [if_pos h0, h0]; show PyData.int (0 * _) = _; rw [Int.zero_mul]
  · rw [if_neg h0]
    show PyData.int (od u * 2 ^ (f.low + (tz u : Int) - f.low).toNat) = _
    rw [show (f.low + (tz u : Int) - f.low).toNat = tz u by omega]
    rw [← (tz_spec h0).1]
def A_chk (r : Rule) : List PyData → PyData → Prop := fun ds d => ∃ (f : Form) (us : List Int), f.Ok ∧ us.length = r.ar ∧ (∀ u ∈ us, isNum f u = true) ∧ ds = encF f :: us.map .int ∧ d = .bool (fits f r us)
theorem chk_1 {r : Rule} (h : r.ar = 1) {ds : List PyData} {d : PyData} (hA : A_chk r ds d) : A_chk1 r ds d := by
  obtain ⟨f, us, ok, hl, hn, rfl, rfl⟩ := hA
  rw [h] at hl
  obtain ⟨x, rfl⟩ := List.length_eq_one_iff.mp hl
  exact ⟨f, x, ok, hn x (by simp), rfl, rfl⟩
theorem chk_2 {r : Rule} (h : r.ar = 2) {ds : List PyData} {d : PyData} (hA : A_chk r ds d) : A_chk2 r ds d := by
  obtain ⟨f, us, ok, hl, hn, rfl, rfl⟩ := hA
  rw [h] at hl
  match us, hl with
  | [x, y], _ => exact ⟨f, x, y, ok, hn x (by simp), hn y (by simp), rfl, rfl⟩
theorem chk_3 {ds : List PyData} {d : PyData} (hA : A_chk .group ds d) : A_chk3 ds d := by
  obtain ⟨f, us, ok, hl, hn, rfl, rfl⟩ := hA
  match us, hl with
  | [x, y, z], _ => exact ⟨f, x, y, z, ok, hn x (by simp), hn y (by simp), hn z (by simp), rfl, rfl⟩
end Fx
namespace Dl
open PySem PySem.Spec PyProof.Rows L2
theorem spD_imp {K : PySem.W.Frag} {A B : List PyData → PyData → Prop} (h : ∀ ds d, A ds d → B ds d) : ∀ (vs : List V) (H : Hp) (Q : VK) (E : XK), spD K A vs H Q E → spD K B vs H Q E := fun vs H Q E ⟨S', ds, d, h1, h2, h3, h4⟩ => ⟨S', ds, d, h1, h2, h _ _ h3, h4⟩
section
variable {F : Fm} {X : Cx} {δ : DE} {R R' : Out} {sts rest body orelse : List Stmt} {pos : Pos}
theorem VS.mono (h : VS F X sts δ R) (h1 : ∀ d, R.nx d → R'.nx d) (h2 : ∀ d, R.rt d → R'.rt d) (h3 : ∀ d, R.bk d → R'.bk d) (h4 : ∀ d, R.ct d → R'.ct d) : VS F X sts δ R' := fun σ H D o s q =>
  h σ H D o s ⟨fun σ' H' δ' e o s k => q.nx σ' H' δ' e o s (h1 _ k), fun σ' H' δ' e o s k => q.bk σ' H' δ' e o s (h3 _ k), fun σ' H' δ' e o s k => q.ct σ' H' δ' e o s (h4 _ k), fun v H' d e o n k => q.rt v H' d e o n (h2 _ k)⟩
/-- an if behind which J holds -/
theorem vs_ifJ {c : Expr} (J : DE → Prop) (hc : VT F X c δ fun b => if b = true then VS F X body δ { R with nx := J } else VS F X orelse δ { R with nx := J }) (hr : ∀ δ', J δ' → VS F X rest δ' R) : VS F X (.If c body orelse pos :: rest) δ R :=
  vs_if (hc.mono fun b hb => by
    cases b with
    | true =>
      have hb' : VS F X body δ { R with nx := J } := by simpa using hb
      simpa using VS.mono (R' := { R with nx := fun δ' => VS F X rest δ' R }) hb' (fun d h => hr d h) (fun _ h => h) (fun _ h => h) (fun _ h => h)
    | false =>
      have hb' : VS F X orelse δ { R with nx := J } := by simpa using hb
      simpa using VS.mono (R' := { R with nx := fun δ' => VS F X rest δ' R }) hb' (fun d h => hr d h) (fun _ h => h) (fun _ h => h) (fun _ h => h))
end
end Dl

set_option Elab.async false
set_option linter.all false
set_option maxRecDepth 100000
set_option exponentiation.threshold 5000
/-! Fx: the rounding of a root, by its whole part and a sticky bit -/
namespace Fx
open PySem Dl
/-- the rounding of a fraction asks no more than how its double stands to whole numbers -/
theorem mag_cmp {f : Form} {neg : Bool} {a b a' b' : Nat} (hb : 0 < b) (hb' : 0 < b') (h1 : ∀ c, 2 * a < c * b ↔ 2 * a' < c * b') (h2 : ∀ c, c * b < 2 * a ↔ c * b' < 2 * a') : mag f neg a b = mag f neg a' b' := by
  have hle : ∀ w, w ≤ a / b ↔ w ≤ a' / b' := fun w => by
    rw [Nat.le_div_iff_mul_le hb, Nat.le_div_iff_mul_le hb']
    have := h1 (2 * w)
    rw [Nat.mul_assoc, Nat.mul_assoc] at this
    omega
  have hd : a / b = a' / b' := Nat.le_antisymm ((hle _).mp (Nat.le_refl _)) ((hle _).mpr (Nat.le_refl _))
  unfold mag
  rw [hd]
  generalize (nb f (a' / b')).1 = i
  generalize (nb f (a' / b')).2 = o
  have he : a = i * b ↔ a' = i * b' := by
    have g1 := h1 (2 * i)
    have g2 := h2 (2 * i)
    rw [Nat.mul_assoc, Nat.mul_assoc] at g1 g2
    omega
  have g1 := h1 (i + o)
  have g2 := h2 (i + o)
  have hg : goOut f.mode neg (2 * (a : Int)) (((i : Int) + o) * b) (i / (o - i)) = goOut f.mode neg (2 * (a' : Int)) (((i : Int) + o) * b') (i / (o - i)) := by
    refine goOut_congr ?_ ?_
    · constructor
      · intro h; have : 2 * a < (i + o) * b := by exact_mod_cast h
        exact_mod_cast g1.mp this
      · intro h; have : 2 * a' < (i + o) * b' := by exact_mod_cast h
        exact_mod_cast g1.mpr this
    · constructor
      · intro h; have : (i + o) * b < 2 * a := by exact_mod_cast h
        exact_mod_cast g2.mp this
      · intro h; have : (i + o) * b' < 2 * a' := by exact_mod_cast h
        exact_mod_cast g2.mpr this
  rw [hg]
  by_cases c : a = i * b
  · rw [if_pos c, if_pos (he.mp c)]
  · rw [if_neg c, if_neg (fun z => c (he.mpr z))]
/-- the whole root and what is left -/
def stk (A s : Nat) : Nat := if s * s = A then 0 else 1
theorem sq_lt {a b : Nat} (h : a < b) : a * a < b * b := Nat.mul_lt_mul'' h h
theorem root_lt {A s h c : Nat} (h1 : s * s ≤ A) (h2 : A < (s + 1) * (s + 1)) : 2 * (2 * s + stk A s) < c * (4 * h) ↔ A < (c * h) * (c * h) := by
  have e : c * (4 * h) = 4 * (c * h) := by rw [← Nat.mul_assoc, Nat.mul_comm c 4, Nat.mul_assoc]
  rw [e]
  generalize c * h = d
  unfold stk
  constructor
  · intro g
    have : s + 1 ≤ d := by split at g <;> omega
    exact Nat.lt_of_lt_of_le h2 (Nat.mul_le_mul this this)
  · intro g
    have : s < d := by
      rcases Nat.lt_or_ge s d with z | z
      · exact z
      · have := Nat.mul_le_mul z z; omega
    split <;> omega
theorem root_gt {A s h c : Nat} (h1 : s * s ≤ A) (h2 : A < (s + 1) * (s + 1)) : c * (4 * h) < 2 * (2 * s + stk A s) ↔ (c * h) * (c * h) < A := by
  have e : c * (4 * h) = 4 * (c * h) := by rw [← Nat.mul_assoc, Nat.mul_comm c 4, Nat.mul_assoc]
  rw [e]
  generalize c * h = d
  unfold stk
  constructor
  · intro g
    by_cases z : d < s
    · have := sq_lt z; omega
    · have : d = s := by split at g <;> omega
      subst this
      split at g
      · omega
      · omega
  · intro g
    rcases Nat.lt_trichotomy d s with z | z | z
    · split <;> omega
    · subst z
      rw [if_neg (by omega)]; omega
    · have : (s + 1) * (s + 1) ≤ d * d := Nat.mul_le_mul z z
      omega
/-- the same root, told to another scale -/
theorem root_rnd {f : Form} {A s h A' s' h' : Nat} (p : 0 < h) (p' : 0 < h') (h1 : s * s ≤ A) (h2 : A < (s + 1) * (s + 1)) (h1' : s' * s' ≤ A') (h2' : A' < (s' + 1) * (s' + 1)) (hs : A * (h' * h') = A' * (h * h)) :
    rnd f ((2 * s + stk A s : Nat) : Int) (4 * h) = rnd f ((2 * s' + stk A' s' : Nat) : Int) (4 * h') := by
  have q : 0 < h * h := Nat.mul_pos p p
  have q' : 0 < h' * h' := Nat.mul_pos p' p'
  have ee : ∀ c : Nat, (c * h) * (c * h) * (h' * h') = (c * h') * (c * h') * (h * h) := fun c => by
    have : ∀ a b d : Nat, a * b * (a * b) * (d * d) = a * d * (a * d) * (b * b) := fun a b d => by
      simp only [Nat.mul_assoc, Nat.mul_left_comm, Nat.mul_comm]
    exact this c h h'
  have hm : ∀ neg, mag f neg (2 * s + stk A s) (4 * h) = mag f neg (2 * s' + stk A' s') (4 * h') := fun neg => by
    refine mag_cmp (by omega) (by omega) (fun c => ?_) (fun c => ?_)
    · rw [root_lt h1 h2, root_lt h1' h2', ← Nat.mul_lt_mul_right q', hs, ee, Nat.mul_lt_mul_right q]
    · rw [root_gt h1 h2, root_gt h1' h2', ← Nat.mul_lt_mul_right q', hs, ee, Nat.mul_lt_mul_right q]
  unfold rnd
  rw [show decide (((2 * s + stk A s : Nat) : Int) < 0) = false by simp; omega, show decide (((2 * s' + stk A' s' : Nat) : Int) < 0) = false by simp; omega, Int.natAbs_natCast, Int.natAbs_natCast, hm]
/-- the root of so many units, rounded -/
def rootR (f : Form) (u : Nat) : Res := rnd f ((2 * Float64.isqrt (u * 2 ^ (f.low + 82).toNat) + stk (u * 2 ^ (f.low + 82).toNat) (Float64.isqrt (u * 2 ^ (f.low + 82).toNat)) : Nat) : Int) (4 * 2 ^ (f.low + 40).toNat)
end Fx

set_option Elab.async false
set_option linter.all false
set_option maxRecDepth 100000
set_option maxHeartbeats 4000000
set_option exponentiation.threshold 5000
namespace T
open PySem PySem.Spec PyProof.Rows L2 Dl Fx
def topS (i : Nat) : Stmt := PySem.Challenge.pw_rulesheld_k03_whole_operations.main.body.getD i (.Pass ⟨0, 0, 0, 0⟩)
abbrev s_to_units : Stmt := topS 8
theorem sc_to_units : FnScope ["form", "number", "n", "k"] ["form", "number"] (defScope s_to_units) := ⟨rfl, rfl, rfl, by decide +kernel, rfl, by decide +kernel, by decide +kernel⟩
abbrev s_from_units : Stmt := topS 9
theorem sc_from_units : FnScope ["form", "units", "zeros"] ["form", "units"] (defScope s_from_units) := ⟨rfl, rfl, rfl, by decide +kernel, rfl, by decide +kernel, by decide +kernel⟩
abbrev s_is_infinite : Stmt := topS 10
theorem sc_is_infinite : FnScope ["units"] ["units"] (defScope s_is_infinite) := ⟨rfl, rfl, rfl, by decide +kernel, rfl, by decide +kernel, by decide +kernel⟩
abbrev s_normal_units : Stmt := topS 11
theorem sc_normal_units : FnScope ["form"] ["form"] (defScope s_normal_units) := ⟨rfl, rfl, rfl, by decide +kernel, rfl, by decide +kernel, by decide +kernel⟩
abbrev s_largest_units : Stmt := topS 12
theorem sc_largest_units : FnScope ["form", "p", "low", "high"] ["form"] (defScope s_largest_units) := ⟨rfl, rfl, rfl, by decide +kernel, rfl, by decide +kernel, by decide +kernel⟩
abbrev s_are_number : Stmt := topS 13
theorem sc_are_number : FnScope ["form", "units", "size", "step"] ["form", "units"] (defScope s_are_number) := ⟨rfl, rfl, rfl, by decide +kernel, rfl, by decide +kernel, by decide +kernel⟩
abbrev s_round_value : Stmt := topS 14
theorem sc_round_value : FnScope ["form", "top", "bottom", "power", "shift"] ["form", "top", "bottom", "power"] (defScope s_round_value) := ⟨rfl, rfl, rfl, by decide +kernel, rfl, by decide +kernel, by decide +kernel⟩
abbrev s_round_units : Stmt := topS 15
theorem sc_round_units : FnScope ["form", "top", "bottom", "size", "inner", "outer", "rounded", "beyond"] ["form", "top", "bottom"] (defScope s_round_units) := ⟨rfl, rfl, rfl, by decide +kernel, rfl, by decide +kernel, by decide +kernel⟩
abbrev s__neighbours : Stmt := topS 16
theorem sc__neighbours : FnScope ["form", "whole", "step", "inner"] ["form", "whole"] (defScope s__neighbours) := ⟨rfl, rfl, rfl, by decide +kernel, rfl, by decide +kernel, by decide +kernel⟩
abbrev s__goes_outward : Stmt := topS 17
theorem sc__goes_outward : FnScope ["mode", "negative", "beyond", "inner_m"] ["mode", "negative", "beyond", "inner_m"] (defScope s__goes_outward) := ⟨rfl, rfl, rfl, by decide +kernel, rfl, by decide +kernel, by decide +kernel⟩
abbrev s__bounded : Stmt := topS 18
theorem sc__bounded : FnScope ["form", "units", "last", "mode", "huge"] ["form", "units"] (defScope s__bounded) := ⟨rfl, rfl, rfl, by decide +kernel, rfl, by decide +kernel, by decide +kernel⟩
abbrev s_is_within : Stmt := topS 29
theorem sc_is_within : FnScope ["value", "least", "greatest"] ["value", "least", "greatest"] (defScope s_is_within) := ⟨rfl, rfl, rfl, by decide +kernel, rfl, by decide +kernel, by decide +kernel⟩
abbrev s_is_format : Stmt := topS 30
theorem sc_is_format : FnScope ["value", "p", "low", "high", "mode", "tiny", "huge"] ["value"] (defScope s_is_format) := ⟨rfl, rfl, rfl, by decide +kernel, rfl, by decide +kernel, by decide +kernel⟩
abbrev s_is_dyadic : Stmt := topS 31
theorem sc_is_dyadic : FnScope ["value", "n", "k"] ["value"] (defScope s_is_dyadic) := ⟨rfl, rfl, rfl, by decide +kernel, rfl, by decide +kernel, by decide +kernel⟩
abbrev s_require_format : Stmt := topS 32
theorem sc_require_format : FnScope ["form"] ["form"] (defScope s_require_format) := ⟨rfl, rfl, rfl, by decide +kernel, rfl, by decide +kernel, by decide +kernel⟩
abbrev s_require_number : Stmt := topS 33
theorem sc_require_number : FnScope ["form", "value"] ["form", "value"] (defScope s_require_number) := ⟨rfl, rfl, rfl, by decide +kernel, rfl, by decide +kernel, by decide +kernel⟩
abbrev s_has_number : Stmt := topS 34
theorem sc_has_number : FnScope ["form", "value"] ["form", "value"] (defScope s_has_number) := ⟨rfl, rfl, rfl, by decide +kernel, rfl, by decide +kernel, by decide +kernel⟩
abbrev s__stands_for_number : Stmt := topS 35
theorem sc__stands_for_number : FnScope ["form", "dyadic", "n", "k"] ["form", "dyadic"] (defScope s__stands_for_number) := ⟨rfl, rfl, rfl, by decide +kernel, rfl, by decide +kernel, by decide +kernel⟩
abbrev s_round_to : Stmt := topS 39
theorem sc_round_to : FnScope ["form", "a", "b"] ["form", "a", "b"] (defScope s_round_to) := ⟨rfl, rfl, rfl, by decide +kernel, rfl, by decide +kernel, by decide +kernel⟩
abbrev s_add : Stmt := topS 40
theorem sc_add : FnScope ["form", "x", "y"] ["form", "x", "y"] (defScope s_add) := ⟨rfl, rfl, rfl, by decide +kernel, rfl, by decide +kernel, by decide +kernel⟩
abbrev s_subtract : Stmt := topS 41
theorem sc_subtract : FnScope ["form", "x", "y"] ["form", "x", "y"] (defScope s_subtract) := ⟨rfl, rfl, rfl, by decide +kernel, rfl, by decide +kernel, by decide +kernel⟩
abbrev s_multiply : Stmt := topS 42
theorem sc_multiply : FnScope ["form", "x", "y"] ["form", "x", "y"] (defScope s_multiply) := ⟨rfl, rfl, rfl, by decide +kernel, rfl, by decide +kernel, by decide +kernel⟩
abbrev s_divide : Stmt := topS 43
theorem sc_divide : FnScope ["form", "x", "y", "top"] ["form", "x", "y"] (defScope s_divide) := ⟨rfl, rfl, rfl, by decide +kernel, rfl, by decide +kernel, by decide +kernel⟩
abbrev s_square_root : Stmt := topS 44
theorem sc_square_root : FnScope ["form", "x", "n", "k", "square", "root", "halves"] ["form", "x"] (defScope s_square_root) := ⟨rfl, rfl, rfl, by decide +kernel, rfl, by decide +kernel, by decide +kernel⟩
abbrev s__require_operands : Stmt := topS 45
theorem sc__require_operands : FnScope ["form", "x", "y"] ["form", "x", "y"] (defScope s__require_operands) := ⟨rfl, rfl, rfl, by decide +kernel, rfl, by decide +kernel, by decide +kernel⟩
abbrev s__law_taken : Stmt := topS 47
theorem sc__law_taken : FnScope ["row", "many", "found", "cell"] ["row", "many"] (defScope s__law_taken) := ⟨rfl, rfl, rfl, by decide +kernel, rfl, by decide +kernel, by decide +kernel⟩
abbrev s__law_pick : Stmt := topS 48
theorem sc__law_pick : FnScope ["row", "kinds"] ["row", "kinds"] (defScope s__law_pick) := ⟨rfl, rfl, rfl, by decide +kernel, rfl, by decide +kernel, by decide +kernel⟩
abbrev s__law_alike : Stmt := topS 49
theorem sc__law_alike : FnScope ["found", "due", "k"] ["found", "due"] (defScope s__law_alike) := ⟨rfl, rfl, rfl, by decide +kernel, rfl, by decide +kernel, by decide +kernel⟩
abbrev s__law_two : Stmt := topS 50
theorem sc__law_two : FnScope ["power"] ["power"] (defScope s__law_two) := ⟨rfl, rfl, rfl, by decide +kernel, rfl, by decide +kernel, by decide +kernel⟩
abbrev s__law_format : Stmt := topS 51
theorem sc__law_format : FnScope ["row", "most", "p", "low", "high", "mode"] ["row", "most"] (defScope s__law_format) := ⟨rfl, rfl, rfl, by decide +kernel, rfl, by decide +kernel, by decide +kernel⟩
abbrev s__law_top : Stmt := topS 52
theorem sc__law_top : FnScope ["form"] ["form"] (defScope s__law_top) := ⟨rfl, rfl, rfl, by decide +kernel, rfl, by decide +kernel, by decide +kernel⟩
abbrev s__law_normal : Stmt := topS 53
theorem sc__law_normal : FnScope ["form"] ["form"] (defScope s__law_normal) := ⟨rfl, rfl, rfl, by decide +kernel, rfl, by decide +kernel, by decide +kernel⟩
abbrev s__law_least : Stmt := topS 54
theorem sc__law_least : FnScope ["form"] ["form"] (defScope s__law_least) := ⟨rfl, rfl, rfl, by decide +kernel, rfl, by decide +kernel, by decide +kernel⟩
abbrev s__law_value : Stmt := topS 55
theorem sc__law_value : FnScope ["form", "units", "n", "k"] ["form", "units"] (defScope s__law_value) := ⟨rfl, rfl, rfl, by decide +kernel, rfl, by decide +kernel, by decide +kernel⟩
abbrev s__law_around : Stmt := topS 56
theorem sc__law_around : FnScope ["form", "size", "bottom", "whole", "step", "lower"] ["form", "size", "bottom"] (defScope s__law_around) := ⟨rfl, rfl, rfl, by decide +kernel, rfl, by decide +kernel, by decide +kernel⟩
abbrev s__law_choose : Stmt := topS 57
theorem sc__law_choose : FnScope ["form", "size", "bottom", "below", "some", "mode", "gap", "odd"] ["form", "size", "bottom", "below"] (defScope s__law_choose) := ⟨rfl, rfl, rfl, by decide +kernel, rfl, by decide +kernel, by decide +kernel⟩
abbrev s__law_round : Stmt := topS 58
theorem sc__law_round : FnScope ["form", "top", "bottom", "below", "found"] ["form", "top", "bottom"] (defScope s__law_round) := ⟨rfl, rfl, rfl, by decide +kernel, rfl, by decide +kernel, by decide +kernel⟩
abbrev s__law_times : Stmt := topS 59
theorem sc__law_times : FnScope ["form", "top", "bottom", "power"] ["form", "top", "bottom", "power"] (defScope s__law_times) := ⟨rfl, rfl, rfl, by decide +kernel, rfl, by decide +kernel, by decide +kernel⟩
abbrev s__law_number : Stmt := topS 60
theorem sc__law_number : FnScope ["row", "form", "n", "span", "m", "units"] ["row", "form"] (defScope s__law_number) := ⟨rfl, rfl, rfl, by decide +kernel, rfl, by decide +kernel, by decide +kernel⟩
abbrev s__law_not_made : Stmt := topS 61
theorem sc__law_not_made : FnScope ["work", "e"] ["work"] (defScope s__law_not_made) := ⟨rfl, rfl, rfl, by decide +kernel, rfl, by decide +kernel, by decide +kernel⟩
abbrev s__law_root : Stmt := topS 62
theorem sc__law_root : FnScope ["form", "x", "top", "bottom", "guess", "step"] ["form", "x"] (defScope s__law_root) := ⟨rfl, rfl, rfl, by decide +kernel, rfl, by decide +kernel, by decide +kernel⟩
abbrev s_law : Stmt := topS 63
theorem sc_law : FnScope ["script", "row", "turn", "form", "x", "y", "one", "other", "a", "b"] ["script"] (defScope s_law) := ⟨rfl, rfl, rfl, by decide +kernel, rfl, by decide +kernel, by decide +kernel⟩
/-- what the top has written -/
structure Txt (w : World) (K : PySem.W.Frag) (mg : Str → Option Value) : Prop where
  a_to_units : At K mg "to_units" s_to_units ["form", "number"]
  a_from_units : At K mg "from_units" s_from_units ["form", "units"]
  a_is_infinite : At K mg "is_infinite" s_is_infinite ["units"]
  a_normal_units : At K mg "normal_units" s_normal_units ["form"]
  a_largest_units : At K mg "largest_units" s_largest_units ["form"]
  a_are_number : At K mg "are_number" s_are_number ["form", "units"]
  a_round_value : At K mg "round_value" s_round_value ["form", "top", "bottom", "power"]
  a_round_units : At K mg "round_units" s_round_units ["form", "top", "bottom"]
  a__neighbours : At K mg "_neighbours" s__neighbours ["form", "whole"]
  a__goes_outward : At K mg "_goes_outward" s__goes_outward ["mode", "negative", "beyond", "inner_m"]
  a__bounded : At K mg "_bounded" s__bounded ["form", "units"]
  a_is_within : At K mg "is_within" s_is_within ["value", "least", "greatest"]
  a_is_format : At K mg "is_format" s_is_format ["value"]
  a_is_dyadic : At K mg "is_dyadic" s_is_dyadic ["value"]
  a_require_format : At K mg "require_format" s_require_format ["form"]
  a_require_number : At K mg "require_number" s_require_number ["form", "value"]
  a_has_number : At K mg "has_number" s_has_number ["form", "value"]
  a__stands_for_number : At K mg "_stands_for_number" s__stands_for_number ["form", "dyadic"]
  a_round_to : At K mg "round_to" s_round_to ["form", "a", "b"]
  a_add : At K mg "add" s_add ["form", "x", "y"]
  a_subtract : At K mg "subtract" s_subtract ["form", "x", "y"]
  a_multiply : At K mg "multiply" s_multiply ["form", "x", "y"]
  a_divide : At K mg "divide" s_divide ["form", "x", "y"]
  a_square_root : At K mg "square_root" s_square_root ["form", "x"]
  a__require_operands : At K mg "_require_operands" s__require_operands ["form", "x", "y"]
  a__law_taken : At K mg "_law_taken" s__law_taken ["row", "many"]
  a__law_pick : At K mg "_law_pick" s__law_pick ["row", "kinds"]
  a__law_alike : At K mg "_law_alike" s__law_alike ["found", "due"]
  a__law_two : At K mg "_law_two" s__law_two ["power"]
  a__law_format : At K mg "_law_format" s__law_format ["row", "most"]
  a__law_top : At K mg "_law_top" s__law_top ["form"]
  a__law_normal : At K mg "_law_normal" s__law_normal ["form"]
  a__law_least : At K mg "_law_least" s__law_least ["form"]
  a__law_value : At K mg "_law_value" s__law_value ["form", "units"]
  a__law_around : At K mg "_law_around" s__law_around ["form", "size", "bottom"]
  a__law_choose : At K mg "_law_choose" s__law_choose ["form", "size", "bottom", "below"]
  a__law_round : At K mg "_law_round" s__law_round ["form", "top", "bottom"]
  a__law_times : At K mg "_law_times" s__law_times ["form", "top", "bottom", "power"]
  a__law_number : At K mg "_law_number" s__law_number ["row", "form"]
  a__law_not_made : At K mg "_law_not_made" s__law_not_made ["work"]
  a__law_root : At K mg "_law_root" s__law_root ["form", "x"]
  a_law : At K mg "law" s_law ["script"]
  e_BadFormat : ∃ C R, Err2 K mg "BadFormat" "RuleError" C R
  e_BadNumber : ∃ C R, Err2 K mg "BadNumber" "RuleError" C R
  e_BadFraction : ∃ C R, Err2 K mg "BadFraction" "RuleError" C R
  e_NotMade : ∃ C R, Err2 K mg "NotMade" "RuleError" C R
  m_ValueError : mg "ValueError" = none
  m_abs : mg "abs" = none
  m_bool : mg "bool" = none
  m_int : mg "int" = none
  m_isinstance : mg "isinstance" = none
  m_len : mg "len" = none
  m_list : mg "list" = none
  m_max : mg "max" = none
  m_min : mg "min" = none
  m_range : mg "range" = none
  m_str : mg "str" = none
  m_tuple : mg "tuple" = none
  i_isqrt : mg "isqrt" = some (.builtin "math.isqrt")
  c_MODES : ∃ a, mg "MODES" = some (.ref a) ∧ SqT K (fun _ => none) a [.str "even", .str "away", .str "down", .str "up", .str "zero"]
  c_TINY_WAYS : ∃ a, mg "TINY_WAYS" = some (.ref a) ∧ SqT K (fun _ => none) a [.str "gradual", .str "flush"]
  c_HUGE_WAYS : ∃ a, mg "HUGE_WAYS" = some (.ref a) ∧ SqT K (fun _ => none) a [.str "infinite", .str "largest"]
  c_LEAST_PRECISION : ∃ t, mg "LEAST_PRECISION" = some (.int (4) t)
  c_GREATEST_PRECISION : ∃ t, mg "GREATEST_PRECISION" = some (.int (10) t)
  c_GREATEST_EXPONENT : ∃ t, mg "GREATEST_EXPONENT" = some (.int (40) t)
  c_GREATEST_SPAN : ∃ t, mg "GREATEST_SPAN" = some (.int (20) t)
  c_GREATEST_FACTOR : ∃ t, mg "GREATEST_FACTOR" = some (.int (10000000000000000000000000000000000000000) t)
  c_GREATEST_POWER : ∃ t, mg "GREATEST_POWER" = some (.int (400) t)
  c_GREATEST_PART : ∃ t, mg "GREATEST_PART" = some (.int (1000000000000000000000000000000000000000000000000000000000000) t)
  c_ROOT_PLACES : ∃ t, mg "ROOT_PLACES" = some (.int (41) t)
section
variable {P : Program} {w : World} {K : PySem.W.Frag} {mg : Str → Option Value} {base : Heap}
/-! ### to_units -/
def A_to_units : List PyData → PyData → Prop := fun ds d => ∃ (f : Form) (n k : Int), f.Ok ∧ ds = [encF f, .tuple [.int n, .int k]] ∧ (n = 0 ∨ (f.low ≤ k ∧ k ≤ 500 ∧ n.natAbs < 2 ^ 200)) ∧ d = .int (n * 2 ^ (k - f.low).toNat)
theorem df_to_units (T : Txt w K mg) : Df P w K mg base "to_units" 1 (spD K A_to_units) := by
  refine df_of T.a_to_units sc_to_units (fun ds d h => ?_) (fun f cdv A' outer s H E S' ds d hr h => ?_)
  · obtain ⟨f, n, k, ok, rfl, _, rfl⟩ := h; rfl
  · obtain ⟨f, n, k, ok, rfl, h1, rfl⟩ := h
    refine vs_unp (pn_cons 2 (pn_cons 3 pn_nil sc_to_units.nd) sc_to_units.nd) ((vd_var 1).to ⟨_, rfl, rfl, ?_⟩)
    refine vs_ifB (vb_eqI (vd_var 2) vd_int) (fun c => ?_) (fun c => ?_)
    · refine vs_ret (vd_int.is ?_)
      rw [of_decide_eq_true c, Int.zero_mul]
    · refine vs_nil ?_
      have hn : n ≠ 0 := of_decide_eq_false c
      refine vs_ret (vd_shl (vd_var 2) (vd_sub (vd_var 3) (vd_ixT (vd_var 0) vd_int rfl)) ?_)
      rcases h1 with h1 | ⟨h1, h2, h3⟩
      · exact absurd h1 hn
      · have hlo := ok.lo
        have e : (k - f.low) = ((k - f.low).toNat : Int) := by omega
        rw [e]
        exact shl_ok h3 (by omega)
theorem to_val {f : Form} (ok : f.Ok) {u : Int} (hu : u.natAbs < 2 ^ 30) : A_to_units [encF f, valD f u] (.int u) := by
  obtain ⟨n, k, h⟩ := pair_of f (pow_mono hu (by decide))
  have lo := ok.lo
  have hi := ok.hi
  refine ⟨f, n, k, ok, by rw [h.val], ?_, by rw [← h.u_eq]⟩
  by_cases hn : n = 0
  · exact .inl hn
  · have h0 : u ≠ 0 := fun z => hn (h.zero.mpr z)
    obtain ⟨_, h2, _⟩ := h.odd hn
    refine .inr ⟨h2, ?_, pow_mono (Nat.lt_of_le_of_lt h.le hu) (by decide)⟩
    have h3 := tz_le h0 hu
    have e := h.val
    unfold valD at e
    rw [if_neg h0] at e
    injection e with e
    injection e with e1 e2
    injection e2 with e2 _
    injection e2 with e2
    omega
/-! ### is_infinite -/
def A_is_infinite : List PyData → PyData → Prop := fun ds d => ∃ r : Res, ds = [encR r] ∧ d = .bool (isInf r)
theorem df_is_infinite (T : Txt w K mg) : Df P w K mg base "is_infinite" 1 (spD K A_is_infinite) := by
  refine df_of T.a_is_infinite sc_is_infinite (fun ds d h => ?_) (fun f cdv A' outer s H E S' ds d hr h => ?_)
  · obtain ⟨r, rfl, rfl⟩ := h; rfl
  · obtain ⟨r, rfl, rfl⟩ := h
    refine vs_ret (VD.is (vd_in (vd_var 0) (vd_tup (vl_cons vd_str (vl_cons vd_str vl_nil))) rfl (by cases r <;> rfl) rfl rfl) (congrArg PyData.bool ?_))
    cases r
    · rfl
    · decide +kernel
    · decide +kernel
/-! ### from_units -/
def A_from_units : List PyData → PyData → Prop := fun ds d => ∃ (f : Form) (r : Res), f.Ok ∧ (∀ u, r = .fin u → u.natAbs < 2 ^ 1000) ∧ ds = [encF f, encR r] ∧ d = encV f r
theorem df_from_units (T : Txt w K mg) : Df P w K mg base "from_units" 2 (spD K A_from_units) := by
  refine df_of T.a_from_units sc_from_units (fun ds d h => ?_) (fun f cdv A' outer s H E S' ds d hr h => ?_)
  · obtain ⟨f, r, _, _, rfl, rfl⟩ := h; rfl
  · obtain ⟨f, r, ok, hb, rfl, rfl⟩ := h
    refine vs_ifB (vb_val (vd_call (df_is_infinite T) hr (by decide) (vl_cons (vd_var 1) vl_nil) ⟨r, rfl, rfl⟩)) (fun c => ?_) (fun c => ?_)
    · refine vs_ret ((vd_var 1).is ?_)
      cases r
      · cases c
      · rfl
      · rfl
    · refine vs_nil ?_
      obtain ⟨u, rfl⟩ : ∃ u, r = .fin u := by
        cases r
        · exact ⟨_, rfl⟩
        · cases c
        · cases c
      refine vs_ifB (vb_eqI (vd_var 1) vd_int) (fun c0 => ?_) (fun c0 => ?_)
      · refine vs_ret ((vd_tup (vl_cons vd_int (vl_cons vd_int vl_nil))).is ?_)
        show _ = valD f u
        unfold valD
        rw [if_pos (of_decide_eq_true c0)]
      · refine vs_nil ?_
        have hu : u ≠ 0 := of_decide_eq_false c0
        have e1 : ((Builtin.Int.intBits (Builtin.bitAnd u (-u)) : Nat) : Int) - 1 = (tz u : Int) := by
          rw [band_neg hu, bits_pow]; omega
        refine vs_asg 2 (VE.to (vd_sub (vd_bits (vd_band (vd_var 1) (vd_neg (vd_var 1)))) vd_int) ?_) sc_from_units.nd
        rw [e1]
        refine vs_ret (VD.is (vd_tup (vl_cons (vd_shr (vd_var 1) (vd_var 2) (by omega)) (vl_cons (vd_add (vd_ixT (vd_var 0) vd_int rfl) (vd_var 2)) vl_nil))) ?_)
        show _ = valD f u
        unfold valD
        rw [if_neg hu]
        rfl
/-! ### normal_units -/
def A_normal_units : List PyData → PyData → Prop := fun ds d => ∃ f : Form, f.Ok ∧ ds = [encF f] ∧ d = .int (nrm f)
theorem df_normal_units (T : Txt w K mg) : Df P w K mg base "normal_units" 1 (spD K A_normal_units) := by
  refine df_of T.a_normal_units sc_normal_units (fun ds d h => ?_) (fun f cdv A' outer s H E S' ds d hr h => ?_)
  · obtain ⟨f, ok, rfl, rfl⟩ := h; rfl
  · obtain ⟨f, ok, rfl, rfl⟩ := h
    have h1 := ok.p4
    have h2 := ok.p10
    have e : ((f.p : Int) - 1) = ((f.p - 1 : Nat) : Int) := by omega
    refine vs_ret (VD.is (vd_shl vd_int (vd_sub (vd_ixT (vd_var 0) vd_int rfl) vd_int) ?_) ?_)
    · rw [e]
      exact shl_ok (n := 1) (by decide) (by omega)
    · rw [e, Int.toNat_natCast]; unfold nrm; rw [Int.one_mul]
/-! ### largest_units -/
def A_largest_units : List PyData → PyData → Prop := fun ds d => ∃ f : Form, f.Ok ∧ ds = [encF f] ∧ d = .int (top f)
theorem df_largest_units (T : Txt w K mg) : Df P w K mg base "largest_units" 1 (spD K A_largest_units) := by
  refine df_of T.a_largest_units sc_largest_units (fun ds d h => ?_) (fun f cdv A' outer s H E S' ds d hr h => ?_)
  · obtain ⟨f, ok, rfl, rfl⟩ := h; rfl
  · obtain ⟨f, ok, rfl, rfl⟩ := h
    have h1 := ok.p4
    have h2 := ok.p10
    have h3 := ok.e20
    have nd := sc_largest_units.nd
    refine vs_unp (pn_cons 1 (pn_cons 2 (pn_cons 3 pn_nil nd) nd) nd) ((vd_slT (vd_var 0) vo_none (vo_some vd_int) (by show ¬ (HT.sIx 6 0 none = 0 ∧ HT.sIx 6 6 (some 3) = 6); decide)).to ⟨_, rfl, rfl, ?_⟩)
    have e : f.low + (f.e : Int) - f.low = (f.e : Int) := by omega
    have hp : (2 : Int) ^ f.p ≤ 2 ^ 10 := Int.pow_le_pow_right₀ f.p 10 h2
    have hp0 := two_pow_pos f.p
    refine vs_ret (VD.is (vd_shl (vd_sub (vd_shl vd_int (vd_var 1) (shl_ok (n := 1) (by decide) (by omega))) vd_int) (vd_sub (vd_var 3) (vd_var 2)) ?_) ?_)
    · rw [e, Int.toNat_natCast, Int.one_mul]
      exact shl_ok (n := 20) (by omega) (by omega)
    · rw [e, Int.toNat_natCast, Int.toNat_natCast, Int.one_mul]; rfl
/-! ### are_number -/
def A_are_number : List PyData → PyData → Prop := fun ds d => ∃ (f : Form) (u : Int), f.Ok ∧ u.natAbs < 2 ^ 1200 ∧ ds = [encF f, .int u] ∧ d = .bool (isNum f u)
theorem df_are_number (T : Txt w K mg) : Df P w K mg base "are_number" 2 (spD K A_are_number) := by
  refine df_of T.a_are_number sc_are_number (fun ds d h => ?_) (fun fa cdv A' outer s H E S' ds d hr h => ?_)
  · obtain ⟨f, u, _, _, rfl, _⟩ := h; rfl
  · obtain ⟨f, u, ok, hu, rfl, rfl⟩ := h
    have nd := sc_are_number.nd
    have p4 := ok.p4
    refine vs_asg 2 (VE.to (vd_abs T.m_abs (vd_var 1)) ?_) nd
    refine vs_ifB (vb_lt (vd_var 2) (vd_call (df_normal_units T) hr (by decide) (vl_cons (vd_var 0) vl_nil) ⟨f, ok, rfl, rfl⟩)) (fun c => ?_) (fun c => vs_nil ?_)
    · refine vs_ret (VD.is (vd_or (vd_eqI (vd_var 2) vd_int) fun _ => vd_one (vd_eqS (vd_ixT (vd_var 0) vd_int rfl) vd_str)) (congrArg PyData.bool ?_))
      have c1 : (u.natAbs : Int) < nrm f := of_decide_eq_true c
      rw [nrm_cast] at c1
      unfold isNum numN
      rw [if_pos (by omega), dec_tiny]
      congr 1
      by_cases h : u.natAbs = 0
      · rw [h]; rfl
      · rw [decide_eq_false (by omega)]; exact (beq_eq_false_iff_ne.mpr h).symm
    have c1 : ¬ (u.natAbs : Int) < nrm f := of_decide_eq_false c
    rw [nrm_cast] at c1
    have hn : ¬ u.natAbs < nrmN f := by omega
    refine vs_ifB (vb_gt (vd_var 2) (vd_call (df_largest_units T) hr (by decide) (vl_cons (vd_var 0) vl_nil) ⟨f, ok, rfl, rfl⟩)) (fun c => ?_) (fun c => vs_nil ?_)
    · refine vs_ret (vd_bl.is (congrArg PyData.bool ?_))
      have c2 : top f < (u.natAbs : Int) := of_decide_eq_true c
      rw [top_cast] at c2
      unfold isNum numN
      rw [if_neg hn, decide_eq_false (by omega), Bool.false_and]
    · have c2 : ¬ top f < (u.natAbs : Int) := of_decide_eq_false c
      rw [top_cast] at c2
      have hlo : 2 ^ (f.p - 1) ≤ u.natAbs := by unfold nrmN at hn; omega
      have hb := le_bln hlo
      have hb2 := bln_le_of hu
      have es : ((Builtin.Int.intBits (u.natAbs : Int) : Nat) : Int) - (f.p : Int) = ((bln u.natAbs - f.p : Nat) : Int) := by
        rw [bits_bln]; show ((bln u.natAbs : Nat) : Int) - f.p = _; omega
      refine vs_asg 3 (VE.to (vd_shl vd_int (vd_sub (vd_bits (vd_var 2)) (vd_ixT (vd_var 0) vd_int rfl)) ?_) ?_) nd
      · rw [es]; exact shl_ok (n := 1) (by decide) (by omega)
      · rw [es, Int.one_mul, Int.toNat_natCast]
        refine vs_ret (VD.is (vd_eqI (vd_mod (vd_var 2) (vd_var 3) (two_pow_pos _)) vd_int) (congrArg PyData.bool ?_))
        unfold isNum numN
        rw [if_neg hn, decide_eq_true (show u.natAbs ≤ topN f by omega), Bool.true_and]
        have e : (u.natAbs : Int) % 2 ^ (bln u.natAbs - f.p) = ((u.natAbs % 2 ^ (bln u.natAbs - f.p) : Nat) : Int) := by simp
        rw [e]
        by_cases h : u.natAbs % 2 ^ (bln u.natAbs - f.p) = 0
        · rw [h]; rfl
        · rw [decide_eq_false (by omega)]; exact (beq_eq_false_iff_ne.mpr h).symm
/-! ### _neighbours -/
def A_neighbours : List PyData → PyData → Prop := fun ds d => ∃ (f : Form) (v : Nat), f.Ok ∧ v < 2 ^ 1200 ∧ ds = [encF f, .int (v : Int)] ∧ d = .tuple [.int ((nb f v).1 : Int), .int ((nb f v).2 : Int)]
theorem df__neighbours (T : Txt w K mg) : Df P w K mg base "_neighbours" 2 (spD K A_neighbours) := by
  refine df_of T.a__neighbours sc__neighbours (fun ds d h => ?_) (fun f cdv A' outer s H E S' ds d hr h => ?_)
  · obtain ⟨f, v, ok, _, rfl, rfl⟩ := h; rfl
  · obtain ⟨f, v, ok, hv, rfl, rfl⟩ := h
    have p4 := ok.p4
    have p10 := ok.p10
    have nd := sc__neighbours.nd
    refine vs_ifB (VW.vt (vwb_and (vb_lt (vd_var 1) (vd_call (df_normal_units T) hr (by decide) (vl_cons (vd_var 0) vl_nil) ⟨f, ok, rfl, rfl⟩)) (fun _ => vwb_and1 (vb_eqS (vd_ixT (vd_var 0) vd_int rfl) vd_str)))) (fun c => ?_) (fun c => ?_)
    · refine vs_ret (VD.is (vd_tup (vl_cons vd_int (vl_cons (vd_call (df_normal_units T) hr (by decide) (vl_cons (vd_var 0) vl_nil) ⟨f, ok, rfl, rfl⟩) vl_nil))) ?_)
      rw [nrm_cast, dec_flush] at c
      simp only [Bool.and_eq_true, decide_eq_true_eq, Bool.not_eq_true'] at c
      have e : nb f v = (0, nrmN f) := by unfold nb; rw [if_pos ⟨by omega, c.2⟩]
      rw [e, nrm_cast]; rfl
    · refine vs_nil ?_
      rw [nrm_cast, dec_flush] at c
      simp only [Bool.and_eq_false_imp, decide_eq_true_eq, Bool.not_eq_false'] at c
      have e : nb f v = (v - v % 2 ^ (bln v - f.p), v - v % 2 ^ (bln v - f.p) + 2 ^ (bln v - f.p)) := by
        unfold nb
        rw [if_neg]
        rintro ⟨h1, h2⟩
        have := c (by omega)
        rw [h2] at this; cases this
      have es : (max 0 ((Builtin.Int.intBits (v : Int) : Nat) - (f.p : Int))) = ((bln v - f.p : Nat) : Int) := by
        rw [bits_bln]; show max 0 ((bln v : Int) - f.p) = _; omega
      have hb : bln v - f.p ≤ 1300 := by have := bln_le_of hv; omega
      refine vs_asg 2 (VE.to (vd_shl vd_int (vd_max2 rfl T.m_max vd_int (vd_sub (vd_bits (vd_var 1)) (vd_ixT (vd_var 0) vd_int rfl))) ?_) ?_) nd
      · rw [es]; exact shl_ok (n := 1) (by decide) (by omega)
      · rw [es, Int.one_mul, Int.toNat_natCast]
        have p0 : (0 : Int) < 2 ^ (bln v - f.p) := two_pow_pos _
        refine vs_asg 3 (VE.to (vd_sub (vd_var 1) (vd_mod (vd_var 1) (vd_var 2) p0)) ?_) nd
        refine vs_ret (VD.is (vd_tup (vl_cons (vd_var 3) (vl_cons (vd_add (vd_var 3) (vd_var 2)) vl_nil))) ?_)
        have hm := Nat.mod_le v (2 ^ (bln v - f.p))
        have e2 : (v : Int) - (v : Int) % 2 ^ (bln v - f.p) = ((v - v % 2 ^ (bln v - f.p) : Nat) : Int) := by
          rw [Int.natCast_sub hm]; simp
        rw [e, e2]
        simp
/-! ### _bounded -/
def A_bounded : List PyData → PyData → Prop := fun ds d => ∃ (f : Form) (u : Int), f.Ok ∧ ds = [encF f, .int u] ∧ d = encR (bnd f (decide (u < 0)) u.natAbs)
theorem in2 (m a b : Mode) : inF (.str m.s) [.str a.s, .str b.s] = (decide (m = a) || decide (m = b)) := by cases m <;> cases a <;> cases b <;> decide +kernel
theorem df__bounded (T : Txt w K mg) : Df P w K mg base "_bounded" 2 (spD K A_bounded) := by
  refine df_of T.a__bounded sc__bounded (fun ds d h => ?_) (fun f cdv A' outer s H E S' ds d hr h => ?_)
  · obtain ⟨f, u, ok, rfl, rfl⟩ := h; rfl
  · obtain ⟨f, u, ok, rfl, rfl⟩ := h
    have nd := sc__bounded.nd
    refine vs_asg 2 (VE.to (vd_call (df_largest_units T) hr (by decide) (vl_cons (vd_var 0) vl_nil) ⟨f, ok, rfl, rfl⟩) ?_) nd
    refine vs_asg 3 (VE.to (vd_ixT (vd_var 0) vd_int rfl) ?_) nd
    refine vs_asg 4 (VE.to (vd_ixT (vd_var 0) vd_int rfl) ?_) nd
    have ht := top_cast f
    refine vs_ifB (vb_gt (vd_var 1) (vd_var 2)) (fun c => ?_) (fun c => vs_nil ?_)
    · refine vs_ret (VD.is (vd_ite (VW.vt (vwb_or (vb_eqS (vd_var 4) vd_str) fun _ => vwb_or1 (vb_in (vd_var 3) (vd_tup (vl_cons vd_str (vl_cons vd_str vl_nil))) rfl rfl rfl rfl))) (fun _ => vd_var 2) (fun _ => vd_str)) ?_)
      have c1 : top f < u := of_decide_eq_true c
      have e1 : decide (u < 0) = false := decide_eq_false (by omega)
      have e2 : topN f < u.natAbs := by omega
      have e3 : inF (.str f.mode.s) [.str ("down" : Str), .str ("zero" : Str)] = (decide (f.mode = .down) || decide (f.mode = .zero)) := in2 f.mode .down .zero
      rw [e3, dec_largest, e1]
      unfold bnd
      rw [if_pos e2]
      have e4 : (!f.inf || (decide (f.mode = .down) || decide (f.mode = .zero))) = hold f false := by
        unfold hold; cases f.mode <;> cases f.inf <;> rfl
      rw [e4]
      cases hold f false
      · rfl
      · show PyData.int (top f) = .int (topN f : Int); rw [ht]
    refine vs_ifB (vb_lt (vd_var 1) (vd_neg (vd_var 2))) (fun c2 => ?_) (fun c2 => vs_nil ?_)
    · refine vs_ret (VD.is (vd_ite (VW.vt (vwb_or (vb_eqS (vd_var 4) vd_str) fun _ => vwb_or1 (vb_in (vd_var 3) (vd_tup (vl_cons vd_str (vl_cons vd_str vl_nil))) rfl rfl rfl rfl))) (fun _ => vd_neg (vd_var 2)) (fun _ => vd_str)) ?_)
      have c1 : u < -top f := of_decide_eq_true c2
      have e1 : decide (u < 0) = true := decide_eq_true (by omega)
      have e2 : topN f < u.natAbs := by omega
      have e3 : inF (.str f.mode.s) [.str ("up" : Str), .str ("zero" : Str)] = (decide (f.mode = .up) || decide (f.mode = .zero)) := in2 f.mode .up .zero
      rw [e3, dec_largest, e1]
      unfold bnd
      rw [if_pos e2]
      have e4 : (!f.inf || (decide (f.mode = .up) || decide (f.mode = .zero))) = hold f true := by
        unfold hold; cases f.mode <;> cases f.inf <;> rfl
      rw [e4]
      cases hold f true
      · rfl
      · show PyData.int (-top f) = .int (-(topN f : Int)); rw [ht]
    · refine vs_ret ((vd_var 1).is ?_)
      have c1 : ¬ top f < u := of_decide_eq_false c
      have c3 : ¬ u < -top f := of_decide_eq_false c2
      unfold bnd
      rw [if_neg (by omega)]
      by_cases h : u < 0
      · rw [decide_eq_true h, if_pos rfl]
        show PyData.int u = .int (-(u.natAbs : Int))
        congr 1; omega
      · rw [decide_eq_false h, if_neg Bool.false_ne_true]
        show PyData.int u = .int (u.natAbs : Int)
        congr 1; omega
/-! ### _goes_outward -/
def A_goes_outward : List PyData → PyData → Prop := fun ds d => ∃ (m : Mode) (neg : Bool) (x y : Int) (im : Nat), ds = [.str m.s, .bool neg, .int (x - y), .int (im : Int)] ∧ d = .bool (goOut m neg x y im)
theorem df__goes_outward (T : Txt w K mg) : Df P w K mg base "_goes_outward" 1 (spD K A_goes_outward) := by
  refine df_of T.a__goes_outward sc__goes_outward (fun ds d h => ?_) (fun f cdv A' outer s H E S' ds d hr h => ?_)
  · obtain ⟨m, neg, x, y, im, rfl, rfl⟩ := h; rfl
  · obtain ⟨m, neg, x, y, im, rfl, rfl⟩ := h
    refine vs_ifB (vb_eqS (vd_var 0) vd_str) (fun c => ?_) (fun c => vs_nil ?_)
    · have c' : decide (m.s = Mode.zero.s) = true := c
      rw [dec_mode] at c'
      have e := of_decide_eq_true c'
      subst e
      exact vs_ret vd_bl
    have n1 : m ≠ .zero := by
      have c' : decide (m.s = Mode.zero.s) = false := c
      rw [dec_mode] at c'; exact of_decide_eq_false c'
    refine vs_ifB (vb_eqS (vd_var 0) vd_str) (fun c => ?_) (fun c => vs_nil ?_)
    · have c' : decide (m.s = Mode.down.s) = true := c
      rw [dec_mode] at c'
      have e := of_decide_eq_true c'
      subst e
      exact vs_ret (vd_var 1)
    have n2 : m ≠ .down := by
      have c' : decide (m.s = Mode.down.s) = false := c
      rw [dec_mode] at c'; exact of_decide_eq_false c'
    refine vs_ifB (vb_eqS (vd_var 0) vd_str) (fun c => ?_) (fun c => vs_nil ?_)
    · have c' : decide (m.s = Mode.up.s) = true := c
      rw [dec_mode] at c'
      have e := of_decide_eq_true c'
      subst e
      exact vs_ret (vd_not (vd_var 1))
    have n3 : m ≠ .up := by
      have c' : decide (m.s = Mode.up.s) = false := c
      rw [dec_mode] at c'; exact of_decide_eq_false c'
    refine vs_ifB (vb_neI (vd_var 2) vd_int) (fun c => ?_) (fun c => vs_nil ?_)
    · refine vs_ret (VD.is (vd_gt (vd_var 2) vd_int) (congrArg PyData.bool ?_))
      have hne : x ≠ y := by
        intro e
        subst e
        simp at c
      have e : decide (0 < x - y) = decide (y < x) := decide_eq_decide.mpr (by omega)
      rw [e]
      cases m
      · show _ = (if x ≠ y then decide (y < x) else _); rw [if_pos hne]
      · show _ = (if x ≠ y then decide (y < x) else _); rw [if_pos hne]
      · exact absurd rfl n2
      · exact absurd rfl n3
      · exact absurd rfl n1
    · have he : x = y := by
        simp only [Bool.not_eq_false', decide_eq_true_eq] at c
        omega
      subst he
      refine vs_ret (VD.is (vd_or (vd_eqS (vd_var 0) vd_str) fun _ => vd_one (vd_eqI (vd_mod (vd_var 3) vd_int (by decide)) vd_int)) (congrArg PyData.bool ?_))
      have c' : decide (m.s = Mode.away.s) = decide (m = .away) := dec_mode _ _
      have c2 : decide (m.s = ("away" : Str)) = decide (m = .away) := c'
      rw [c2]
      cases m
      · show (false || decide ((im : Int) % 2 = 1)) = (if x ≠ x then _ else (im % 2 == 1))
        rw [if_neg (fun z => z rfl), Bool.false_or]
        by_cases h : im % 2 = 1
        · rw [decide_eq_true (by omega), h]; rfl
        · rw [decide_eq_false (by omega)]
          exact (beq_eq_false_iff_ne.mpr h).symm
      · show true = (if x ≠ x then _ else true)
        rw [if_neg (fun z => z rfl)]
      · exact absurd rfl n2
      · exact absurd rfl n3
      · exact absurd rfl n1
/-! ### round_units -/
def A_round_units : List PyData → PyData → Prop := fun ds d => ∃ (f : Form) (t : Int) (b : Nat), f.Ok ∧ 0 < b ∧ t.natAbs < 2 ^ 1200 ∧ b < 2 ^ 1200 ∧ ds = [encF f, .int t, .int (b : Int)] ∧ d = encR (rnd f t b)
theorem df_round_units (T : Txt w K mg) : Df P w K mg base "round_units" 3 (spD K A_round_units) := by
  refine df_of T.a_round_units sc_round_units (fun ds d h => ?_) (fun fa cdv A' outer s H E S' ds d hr h => ?_)
  · obtain ⟨f, t, b, _, _, _, _, rfl, rfl⟩ := h; rfl
  · obtain ⟨f, t, b, ok, hb0, ht, hb, rfl, rfl⟩ := h
    have nd := sc_round_units.nd
    have p4 := ok.p4
    have hw : t.natAbs / b < 2 ^ 1200 := Nat.lt_of_le_of_lt (Nat.div_le_self _ _) ht
    obtain ⟨n1, n2, n3⟩ := nb_le f (by omega) (t.natAbs / b)
    have n4 := nrmN_le ok
    have n5 := pow600 hw (Nat.le_refl _)
    refine vs_asg 3 (VE.to (vd_abs T.m_abs (vd_var 1)) ?_) nd
    have ew : (t.natAbs : Int) / (b : Int) = ((t.natAbs / b : Nat) : Int) := by simp
    have hdiv : CDivW (t.natAbs : Int) (b : Int) := wide_div (b := 1200) (by omega) (by simpa using hb) (by decide) (by decide)
    refine vs_unp (pn_cons 4 (pn_cons 5 pn_nil nd) nd) (VE.to (vd_call (df__neighbours T) hr (by decide) (vl_cons (vd_var 0) (vl_cons (VD.is (vd_fdiv (vd_var 3) (vd_var 2) hdiv) (congrArg PyData.int ew)) vl_nil)) ⟨f, _, ok, hw, rfl, rfl⟩) ⟨_, rfl, rfl, ?_⟩)
    generalize hi : (nb f (t.natAbs / b)).1 = i at n1 n2 n3
    generalize ho : (nb f (t.natAbs / b)).2 = o at n2 n3
    have hmag : mag f (decide (t < 0)) t.natAbs b = if t.natAbs = i * b then i else if goOut f.mode (decide (t < 0)) (2 * t.natAbs) ((i + o) * b) (i / (o - i)) = true then o else i := by
      unfold mag; rw [hi, ho]
    refine vs_asg 6 (VE.to (vd_var 4) ?_) nd
    have fin : ∀ (r : Nat) (δ : DE), mag f (decide (t < 0)) t.natAbs b = r → δ[0]? = some (some (.dat (encF f))) → δ[1]? = some (some (.dat (.int t))) → δ[6]? = some (some (.dat (.int (r : Int)))) →
        VS (Fm.pure S') (cxOf (L2.CX P w) P w K mg base ["form", "top", "bottom", "size", "inner", "outer", "rounded", "beyond"] "round_units" (defScope s_round_units) fa cdv A' outer s H E).nox (((defBody s_round_units).drop 4)) δ { nx := fun _ => encR (rnd f t b) = .none, rt := fun y => y = encR (rnd f t b) } := by
      intro r δ hr' h0 h1 h6
      refine vs_ret (vd_call (df__bounded T) hr (by decide) (vl_cons (vd_var 0 h0) (vl_cons (vd_ite (vb_lt (vd_var 1 h1) vd_int) (fun _ => vd_neg (vd_var 6 h6)) (fun _ => vd_var 6 h6)) vl_nil)) ⟨f, if t < 0 then -(r : Int) else r, ok, ?_, ?_⟩)
      · by_cases h : t < 0
        · simp [h]
        · simp [h]
      · have e := bnd_sign f (decide (t < 0)) r
        have e2 : (if decide (t < 0) = true then -(r : Int) else (r : Int)) = if t < 0 then -(r : Int) else (r : Int) := by
          by_cases h : t < 0 <;> simp [h]
        rw [e2] at e
        have e3 : (if t < 0 then -(r : Int) else (r : Int)).natAbs = r := by split <;> omega
        rw [e3, e]
        unfold rnd
        rw [hr']
    have hmul : CMulX (i : Int) (b : Int) := mulx_ok (a := 1200) (b := 1200) (by simp; omega) (by simpa using hb) (by decide)
    have es : ((t.natAbs : Int) = (i : Int) * (b : Int)) ↔ t.natAbs = i * b := by
      rw [← Int.natCast_mul]; omega
    refine vs_ifB (vb_neI (vd_var 3) (vd_mul (vd_var 4) (vd_var 2) hmul)) (fun c => ?_) (fun c => vs_nil ?_)
    · have hne : t.natAbs ≠ i * b := by
        intro e
        have := es.mpr e
        simp [this] at c
      have hmul2 : CMulX ((i : Int) + (o : Int)) (b : Int) := mulx_ok (a := 1301) (b := 1200) (by
        have : ((i : Int) + (o : Int)).natAbs = i + o := by omega
        rw [this, Nat.pow_succ]
        omega) (by simpa using hb) (by decide)
      refine vs_asg 7 (VE.to (vd_sub (vd_mul vd_int (vd_var 3) (mulx_ok (a := 2) (b := 1200) (by decide) (by simpa using ht) (by decide))) (vd_mul (vd_add (vd_var 4) (vd_var 5)) (vd_var 2) hmul2)) ?_) nd
      have hdv : CDivW (i : Int) ((o : Int) - (i : Int)) := wide_div (b := 1300) (by omega) (by
        have : ((o : Int) - (i : Int)).natAbs = o - i := by omega
        rw [this]; omega) (by decide) (by decide)
      have eim : (i : Int) / ((o : Int) - (i : Int)) = ((i / (o - i) : Nat) : Int) := by
        have : ((o : Int) - (i : Int)) = ((o - i : Nat) : Int) := by omega
        rw [this]; simp
      refine vs_ifB (vb_val (vd_call (df__goes_outward T) hr (by decide) (vl_cons (vd_ixT (vd_var 0) vd_int rfl) (vl_cons (vd_lt (vd_var 1) vd_int) (vl_cons (vd_var 7) (vl_cons (VD.is (vd_fdiv (vd_var 4) (vd_sub (vd_var 5) (vd_var 4)) hdv) (congrArg PyData.int eim)) vl_nil)))) ⟨f.mode, decide (t < 0), _, _, _, rfl, rfl⟩)) (fun g => ?_) (fun g => ?_)
      · refine vs_asg 6 (VE.to (vd_var 5) ?_) nd
        refine vs_nil (vs_nil ?_)
        refine fin o _ ?_ rfl rfl rfl
        rw [hmag, if_neg hne, if_pos g]
      · refine vs_nil (vs_nil ?_)
        refine fin i _ ?_ rfl rfl rfl
        rw [hmag, if_neg hne, if_neg (by rw [g]; exact Bool.false_ne_true)]
    · have he : t.natAbs = i * b := by
        simp only [Bool.not_eq_false', decide_eq_true_eq] at c
        exact es.mp c
      refine fin i _ ?_ rfl rfl rfl
      rw [hmag, if_pos he]
/-! ### round_value -/
def A_round_value : List PyData → PyData → Prop := fun ds d => ∃ (f : Form) (t : Int) (b : Nat) (pw : Int), f.Ok ∧ 0 < b ∧ t.natAbs < 2 ^ 600 ∧ b < 2 ^ 600 ∧ -500 ≤ pw ∧ pw ≤ 500 ∧ ds = [encF f, .int t, .int (b : Int), .int pw] ∧ d = encR (rndV f t b (pw - f.low))
theorem df_round_value (T : Txt w K mg) : Df P w K mg base "round_value" 4 (spD K A_round_value) := by
  refine df_of T.a_round_value sc_round_value (fun ds d h => ?_) (fun fa cdv A' outer s H E S' ds d hr h => ?_)
  · obtain ⟨f, t, b, pw, _, _, _, _, _, _, rfl, _⟩ := h; rfl
  · obtain ⟨f, t, b, pw, ok, hb0, ht, hb, hp1, hp2, rfl, rfl⟩ := h
    have nd := sc_round_value.nd
    have lo := ok.lo
    have hi := ok.hi
    refine vs_asg 4 (VE.to (vd_sub (vd_var 3) (vd_ixT (vd_var 0) vd_int rfl)) ?_) nd
    generalize hs : pw - f.low = sh
    have s1 : -600 ≤ sh := by omega
    have s2 : sh ≤ 540 := by omega
    refine vs_ifB (vb_lt (vd_var 4) vd_int) (fun c => ?_) (fun c => vs_nil ?_)
    · have c1 : sh < 0 := of_decide_eq_true c
      have e : -sh = ((-sh).toNat : Int) := by omega
      refine vs_ret (vd_call (df_round_units T) hr (by decide) (vl_cons (vd_var 0) (vl_cons (vd_var 1) (vl_cons (vd_shl (vd_var 2) (vd_neg (vd_var 4)) ?_) vl_nil))) ⟨f, t, b * 2 ^ (-sh).toNat, ok, Nat.mul_pos hb0 (Nat.two_pow_pos _), ?_, ?_, ?_, ?_⟩)
      · rw [e]; exact shl_ok (n := 600) (by simpa using hb) (by omega)
      · exact Nat.lt_trans ht (Nat.pow_lt_pow_right (by decide) (by decide))
      · have h1 : b * 2 ^ (-sh).toNat < 2 ^ 600 * 2 ^ 600 := by
          refine Nat.lt_of_lt_of_le (Nat.mul_lt_mul_of_pos_right hb (Nat.two_pow_pos _)) (Nat.mul_le_mul_left _ (Nat.pow_le_pow_right (by decide) (by omega)))
        rw [← Nat.pow_add] at h1; exact h1
      · simp
      · unfold rndV; rw [if_pos c1]
    · have c1 : ¬ sh < 0 := of_decide_eq_false c
      have e : sh = (sh.toNat : Int) := by omega
      refine vs_ret (vd_call (df_round_units T) hr (by decide) (vl_cons (vd_var 0) (vl_cons (vd_shl (vd_var 1) (vd_var 4) ?_) (vl_cons (vd_var 2) vl_nil))) ⟨f, t * 2 ^ sh.toNat, b, ok, hb0, ?_, ?_, rfl, ?_⟩)
      · rw [e]; exact shl_ok (n := 600) ht (by omega)
      · have h1 : (t * 2 ^ sh.toNat).natAbs < 2 ^ 600 * 2 ^ 600 := by
          rw [Int.natAbs_mul, Int.natAbs_pow]
          refine Nat.lt_of_lt_of_le (Nat.mul_lt_mul_of_pos_right ht (Nat.two_pow_pos _)) (Nat.mul_le_mul_left _ (Nat.pow_le_pow_right (by decide) (by omega)))
        rw [← Nat.pow_add] at h1; exact h1
      · exact Nat.lt_trans hb (Nat.pow_lt_pow_right (by decide) (by decide))
      · unfold rndV; rw [if_neg c1]
/-! ### is_within -/
def A_is_within : List PyData → PyData → Prop := fun ds d => ∃ (v : PyData) (l g : Int), ds = [v, .int l, .int g] ∧ d = .bool (within v l g)
theorem df_is_within (T : Txt w K mg) : Df P w K mg base "is_within" 1 (spD K A_is_within) := by
  refine df_of T.a_is_within sc_is_within (fun ds d h => ?_) (fun fa cdv A' outer s H E S' ds d hr h => ?_)
  · obtain ⟨v, l, g, rfl, _⟩ := h; rfl
  · obtain ⟨v, l, g, rfl, rfl⟩ := h
    cases v with
    | int i => exact vs_ret (VD.is (vd_and (vd_isi T.m_isinstance T.m_int (by decide +kernel) (vd_var 0) (kit_int _)) fun _ => vd_and (vd_not (vd_isi T.m_isinstance T.m_bool (by decide +kernel) (vd_var 0) (kit_bool _))) fun _ => vd_one (vd_lele (vd_var 1) (vd_var 0) (vd_var 2))) (congrArg PyData.bool (by show (true && (!false && _)) = _; simp [within])))
    | bool b => exact vs_ret (VD.is (vd_and (vd_isi T.m_isinstance T.m_int (by decide +kernel) (vd_var 0) (kit_int _)) fun _ => vd_and (y := true) (vd_not (vd_isi T.m_isinstance T.m_bool (by decide +kernel) (vd_var 0) (kit_bool _))) fun h => by cases h) rfl)
    | none => exact vs_ret (VD.is (vd_and (y := true) (vd_isi T.m_isinstance T.m_int (by decide +kernel) (vd_var 0) (kit_int _)) fun h => by cases h) rfl)
    | str x => exact vs_ret (VD.is (vd_and (y := true) (vd_isi T.m_isinstance T.m_int (by decide +kernel) (vd_var 0) (kit_int _)) fun h => by cases h) rfl)
    | list x => exact vs_ret (VD.is (vd_and (y := true) (vd_isi T.m_isinstance T.m_int (by decide +kernel) (vd_var 0) (kit_int _)) fun h => by cases h) rfl)
    | tuple x => exact vs_ret (VD.is (vd_and (y := true) (vd_isi T.m_isinstance T.m_int (by decide +kernel) (vd_var 0) (kit_int _)) fun h => by cases h) rfl)
    | dict x => exact vs_ret (VD.is (vd_and (y := true) (vd_isi T.m_isinstance T.m_int (by decide +kernel) (vd_var 0) (kit_int _)) fun h => by cases h) rfl)
/-! ### is_format -/
def A_is_format : List PyData → PyData → Prop := fun ds d => ∃ v : PyData, fmtPre v ∧ ds = [v] ∧ d = .bool (fmtB v)
theorem df_is_format (T : Txt w K mg) : Df P w K mg base "is_format" 2 (spD K A_is_format) := by
  refine df_of T.a_is_format sc_is_format (fun ds d h => ?_) (fun fa cdv A' outer s H E S' ds d hr h => ?_)
  · obtain ⟨v, _, rfl, _⟩ := h; rfl
  · obtain ⟨v, hv, rfl, rfl⟩ := h
    have nd := sc_is_format.nd
    obtain ⟨t1, c1⟩ := T.c_LEAST_PRECISION
    obtain ⟨t2, c2⟩ := T.c_GREATEST_PRECISION
    obtain ⟨t3, c3⟩ := T.c_GREATEST_EXPONENT
    obtain ⟨t4, c4⟩ := T.c_GREATEST_SPAN
    obtain ⟨a1, m1, q1⟩ := T.c_MODES
    obtain ⟨a2, m2, q2⟩ := T.c_TINY_WAYS
    obtain ⟨a3, m3, q3⟩ := T.c_HUGE_WAYS
    by_cases ht : ∃ xs, v = .tuple xs ∧ xs.length = 6
    · obtain ⟨xs, rfl, hl⟩ := ht
      obtain ⟨p, low, high, mode, tiny, huge, rfl⟩ : ∃ a b c d e g, xs = [a, b, c, d, e, g] := by
        match xs, hl with
        | [a, b, c, d, e, g], _ => exact ⟨a, b, c, d, e, g, rfl⟩
      obtain ⟨s1, s2, s3⟩ := hv
      refine vs_ifB (VW.vt (vwb_or (vb_not (vb_val (vd_isi T.m_isinstance T.m_tuple (by decide +kernel) (vd_var 0) (kit_tuple _)))) fun _ => vwb_or1 (vb_neI (vd_len T.m_len (vd_var 0) rfl) vd_int))) (fun c => by simp [isTupD] at c) (fun _ => vs_nil ?_)
      refine vs_unp (pn_cons 1 (pn_cons 2 (pn_cons 3 (pn_cons 4 (pn_cons 5 (pn_cons 6 pn_nil nd) nd) nd) nd) nd) nd) (VE.to (vd_var 0) ⟨_, rfl, rfl, ?_⟩)
      refine vs_ifB (vb_not (vb_val (vd_call (df_is_within T) hr (by decide) (vl_cons (vd_var 1) (vl_cons (vd_gint c1) (vl_cons (vd_gint c2) vl_nil))) ⟨p, _, _, rfl, rfl⟩))) (fun c => ?_) (fun c => vs_nil ?_)
      · refine vs_ret (vd_bl.is (congrArg PyData.bool ?_))
        have c' : within p 4 10 = false := by simpa using c
        cases low <;> simp [fmtB, c']
      have w1 : within p 4 10 = true := by simpa using c
      refine vs_ifB (vb_not (vb_val (vd_call (df_is_within T) hr (by decide) (vl_cons (vd_var 2) (vl_cons (vd_neg (vd_gint c3)) (vl_cons (vd_gint c3) vl_nil))) ⟨low, _, _, rfl, rfl⟩))) (fun c => ?_) (fun c => vs_nil ?_)
      · refine vs_ret (vd_bl.is (congrArg PyData.bool ?_))
        have c' : within low (-40) 40 = false := by simpa using c
        cases low <;> simp [fmtB, w1, c']
      have w2 : within low (-40) 40 = true := by simpa using c
      obtain ⟨lo, rfl⟩ : ∃ lo, low = .int lo := by
        cases low <;> first | exact ⟨_, rfl⟩ | (simp [within] at w2)
      refine vs_ifB (vb_not (vb_val (vd_call (df_is_within T) hr (by decide) (vl_cons (vd_var 3) (vl_cons (vd_var 2) (vl_cons (vd_min2 rfl T.m_min (vd_add (vd_var 2) (vd_gint c4)) (vd_gint c3)) vl_nil))) ⟨high, _, _, rfl, rfl⟩))) (fun c => ?_) (fun c => vs_nil ?_)
      · refine vs_ret (vd_bl.is (congrArg PyData.bool ?_))
        have c' : within high lo (min (lo + 20) 40) = false := by simpa using c
        simp [fmtB, w1, w2, c']
      have w3 : within high lo (min (lo + 20) 40) = true := by simpa using c
      refine vs_ret (VD.is (vd_and (vd_inK (ds := [.str ("even" : Str), .str ("away" : Str), .str ("down" : Str), .str ("up" : Str), .str ("zero" : Str)]) (vd_var 4) m1 q1 s1 rfl) fun _ => vd_and (vd_inK (ds := [.str ("gradual" : Str), .str ("flush" : Str)]) (vd_var 5) m2 q2 s2 rfl) fun _ => vd_one (vd_inK (ds := [.str ("infinite" : Str), .str ("largest" : Str)]) (vd_var 6) m3 q3 s3 rfl)) (congrArg PyData.bool ?_))
      simp [fmtB, w1, w2, w3]
    · have hf : fmtB v = false := by
        unfold fmtB
        split
        · exact absurd ⟨_, rfl, rfl⟩ ht
        · rfl
      rw [hf]
      by_cases h2 : isTupD v = true
      · obtain ⟨xs, rfl⟩ : ∃ xs, v = .tuple xs := by cases v <;> first | exact ⟨_, rfl⟩ | cases h2
        have hl : xs.length ≠ 6 := fun z => ht ⟨xs, rfl, z⟩
        refine vs_ifB (VW.vt (vwb_or (vb_not (vb_val (vd_isi T.m_isinstance T.m_tuple (by decide +kernel) (vd_var 0) (kit_tuple _)))) fun _ => vwb_or1 (vb_neI (vd_len T.m_len (vd_var 0) rfl) vd_int))) (fun _ => vs_ret vd_bl) (fun c => ?_)
        have : ¬ ((xs.length : Int) = 6) := by omega
        simp [isTupD, this] at c
      · have h3 : isTupD v = false := by simpa using h2
        refine vs_ifB (VW.vt (vwb_or (y := true) (vb_not (vb_val (vd_isi T.m_isinstance T.m_tuple (by decide +kernel) (vd_var 0) (kit_tuple _)))) fun h => by rw [h3] at h; cases h)) (fun _ => vs_ret vd_bl) (fun c => ?_)
        rw [h3] at c; cases c
/-! ### is_dyadic -/
def A_is_dyadic : List PyData → PyData → Prop := fun ds d => ∃ v : PyData, ds = [v] ∧ d = .bool (dyB v)
theorem df_is_dyadic (T : Txt w K mg) : Df P w K mg base "is_dyadic" 2 (spD K A_is_dyadic) := by
  refine df_of T.a_is_dyadic sc_is_dyadic (fun ds d h => ?_) (fun fa cdv A' outer s H E S' ds d hr h => ?_)
  · obtain ⟨v, rfl, _⟩ := h; rfl
  · obtain ⟨v, rfl, rfl⟩ := h
    have nd := sc_is_dyadic.nd
    obtain ⟨t1, c1⟩ := T.c_GREATEST_FACTOR
    obtain ⟨t2, c2⟩ := T.c_GREATEST_POWER
    by_cases ht : ∃ xs, v = .tuple xs ∧ xs.length = 2
    · obtain ⟨xs, rfl, hl⟩ := ht
      obtain ⟨n, k, rfl⟩ : ∃ a b, xs = [a, b] := by
        match xs, hl with
        | [a, b], _ => exact ⟨a, b, rfl⟩
      refine vs_ifB (VW.vt (vwb_or (vb_not (vb_val (vd_isi T.m_isinstance T.m_tuple (by decide +kernel) (vd_var 0) (kit_tuple _)))) fun _ => vwb_or1 (vb_neI (vd_len T.m_len (vd_var 0) rfl) vd_int))) (fun c => by simp [isTupD] at c) (fun _ => vs_nil ?_)
      refine vs_unp (pn_cons 1 (pn_cons 2 pn_nil nd) nd) (VE.to (vd_var 0) ⟨_, rfl, rfl, ?_⟩)
      have big : ((10 : Int) ^ 40) = 10000000000000000000000000000000000000000 := by decide
      refine vs_ifB (vb_not (vb_val (vd_call (df_is_within T) hr (by decide) (vl_cons (vd_var 1) (vl_cons (vd_neg (vd_gint c1)) (vl_cons (vd_gint c1) vl_nil))) ⟨n, _, _, rfl, rfl⟩))) (fun c => ?_) (fun c => vs_nil ?_)
      · refine vs_ret (vd_bl.is (congrArg PyData.bool ?_))
        have c' : within n (-(10 ^ 40)) (10 ^ 40) = false := by rw [big]; simpa using c
        cases n <;> simp only [dyB, c', Bool.false_and]
      have w1 : within n (-(10 ^ 40)) (10 ^ 40) = true := by rw [big]; simpa using c
      obtain ⟨n, rfl⟩ : ∃ m, n = .int m := by
        cases n <;> first | exact ⟨_, rfl⟩ | (simp [within] at w1)
      refine vs_ifB (vb_not (vb_val (vd_call (df_is_within T) hr (by decide) (vl_cons (vd_var 2) (vl_cons (vd_neg (vd_gint c2)) (vl_cons (vd_gint c2) vl_nil))) ⟨k, _, _, rfl, rfl⟩))) (fun c => ?_) (fun c => vs_nil ?_)
      · refine vs_ret (vd_bl.is (congrArg PyData.bool ?_))
        have c' : within k (-400) 400 = false := by simpa using c
        simp only [dyB, w1, c', Bool.false_and, Bool.true_and]
      have w2 : within k (-400) 400 = true := by simpa using c
      obtain ⟨k, rfl⟩ : ∃ m, k = .int m := by
        cases k <;> first | exact ⟨_, rfl⟩ | (simp [within] at w2)
      refine vs_ret (VD.is (vd_or (vd_eqI (vd_mod (vd_var 1) vd_int (by decide)) vd_int) fun _ => vd_one (vd_and (vd_eqI (vd_var 1) vd_int) fun _ => vd_one (vd_eqI (vd_var 2) vd_int))) (congrArg PyData.bool ?_))
      simp only [dyB, w1, w2, Bool.true_and]
    · have hf : dyB v = false := by
        unfold dyB
        split
        · exact absurd ⟨_, rfl, rfl⟩ ht
        · rfl
      rw [hf]
      by_cases h2 : isTupD v = true
      · obtain ⟨xs, rfl⟩ : ∃ xs, v = .tuple xs := by cases v <;> first | exact ⟨_, rfl⟩ | cases h2
        have hl : xs.length ≠ 2 := fun z => ht ⟨xs, rfl, z⟩
        refine vs_ifB (VW.vt (vwb_or (vb_not (vb_val (vd_isi T.m_isinstance T.m_tuple (by decide +kernel) (vd_var 0) (kit_tuple _)))) fun _ => vwb_or1 (vb_neI (vd_len T.m_len (vd_var 0) rfl) vd_int))) (fun _ => vs_ret vd_bl) (fun c => ?_)
        have : ¬ ((xs.length : Int) = 2) := by omega
        simp [isTupD, this] at c
      · have h3 : isTupD v = false := by simpa using h2
        refine vs_ifB (VW.vt (vwb_or (y := true) (vb_not (vb_val (vd_isi T.m_isinstance T.m_tuple (by decide +kernel) (vd_var 0) (kit_tuple _)))) fun h => by rw [h3] at h; cases h)) (fun _ => vs_ret vd_bl) (fun c => ?_)
        rw [h3] at c; cases c
/-! ### require_format -/
def A_req_f : List PyData → PyData → Prop := fun ds d => ∃ f : Form, f.Ok ∧ ds = [encF f] ∧ d = .none
theorem df_require_format (T : Txt w K mg) : Df P w K mg base "require_format" 3 (spD K A_req_f) := by
  refine df_of T.a_require_format sc_require_format (fun ds d h => ?_) (fun fa cdv A' outer s H E S' ds d hr h => ?_)
  · obtain ⟨f, _, rfl, _⟩ := h; rfl
  · obtain ⟨f, ok, rfl, rfl⟩ := h
    obtain ⟨h1, h2⟩ := fmtB_enc ok
    refine vs_ifB (vb_not (vb_val (vd_call (df_is_format T) hr (by decide) (vl_cons (vd_var 0) vl_nil) ⟨_, h2, rfl, rfl⟩))) (fun c => ?_) (fun c => vs_nil (vs_nil rfl))
    rw [h1] at c; cases c
/-! ### _stands_for_number -/
def A_stands : List PyData → PyData → Prop := fun ds d => ∃ (f : Form) (v : PyData), f.Ok ∧ dyB v = true ∧ ds = [encF f, v] ∧ d = .bool (stB f v)
theorem df__stands_for_number (T : Txt w K mg) : Df P w K mg base "_stands_for_number" 3 (spD K A_stands) := by
  refine df_of T.a__stands_for_number sc__stands_for_number (fun ds d h => ?_) (fun fa cdv A' outer s H E S' ds d hr h => ?_)
  · obtain ⟨f, v, _, _, rfl, _⟩ := h; rfl
  · obtain ⟨f, v, ok, hd, rfl, rfl⟩ := h
    have nd := sc__stands_for_number.nd
    obtain ⟨n, k, rfl, hn, k1, k2⟩ := dyB_inv hd
    have lo := ok.lo
    have hn2 : n.natAbs < 2 ^ 140 := Nat.lt_of_le_of_lt hn (by decide)
    refine vs_unp (pn_cons 2 (pn_cons 3 pn_nil nd) nd) (VE.to (vd_var 1) ⟨_, rfl, rfl, ?_⟩)
    refine vs_ifB (vb_eqI (vd_var 2) vd_int) (fun c => ?_) (fun c => vs_nil ?_)
    · refine vs_ret (vd_bl.is (congrArg PyData.bool ?_))
      show true = (decide (n = 0) || _)
      rw [c, Bool.true_or]
    · refine vs_ret (VD.is (vd_and (vd_ge (vd_var 3) (vd_ixT (vd_var 0) vd_int rfl)) fun c2 => vd_one (vd_call (df_are_number T) hr (by decide) (vl_cons (vd_var 0) (vl_cons (vd_call (df_to_units T) hr (by decide) (vl_cons (vd_var 0) (vl_cons (vd_var 1) vl_nil)) ⟨f, n, k, ok, rfl, .inr ⟨of_decide_eq_true c2, by omega, pow_mono hn2 (by decide)⟩, rfl⟩) vl_nil)) ⟨f, _, ok, ?_, rfl, rfl⟩)) (congrArg PyData.bool ?_))
      · rw [Int.natAbs_mul, Int.natAbs_pow]
        have h1 : n.natAbs * 2 ^ (k - f.low).toNat < 2 ^ 140 * 2 ^ 500 := Nat.lt_of_lt_of_le (Nat.mul_lt_mul_of_pos_right hn2 (Nat.two_pow_pos _)) (Nat.mul_le_mul_left _ (Nat.pow_le_pow_right (by decide) (by omega)))
        rw [← Nat.pow_add] at h1
        exact pow_mono h1 (by decide)
      · show _ = (decide (n = 0) || _)
        rw [c, Bool.false_or]
/-! ### has_number -/
def A_has : List PyData → PyData → Prop := fun ds d => ∃ (f : Form) (v : PyData), f.Ok ∧ ds = [encF f, v] ∧ d = .bool (hasB f v)
theorem df_has_number (T : Txt w K mg) : Df P w K mg base "has_number" 4 (spD K A_has) := by
  have D := df__stands_for_number (P := P) (w := w) (base := base) T
  refine df_of T.a_has_number sc_has_number (fun ds d h => ?_) (fun fa cdv A' outer s H E S' ds d hr h => ?_)
  · obtain ⟨f, v, _, rfl, _⟩ := h; rfl
  · obtain ⟨f, v, ok, rfl, rfl⟩ := h
    exact vs_ret (vd_and (vd_call (df_is_dyadic T) hr (by decide) (vl_cons (vd_var 1) vl_nil) ⟨v, rfl, rfl⟩) fun c => vd_one (vd_call D hr (by decide) (vl_cons (vd_var 0) (vl_cons (vd_var 1) vl_nil)) ⟨f, v, ok, c, rfl, rfl⟩))
/-! ### require_number -/
def A_req_n : List PyData → PyData → Prop := fun ds d => ∃ (f : Form) (v : PyData), f.Ok ∧ hasB f v = true ∧ ds = [encF f, v] ∧ d = .none
theorem df_require_number (T : Txt w K mg) : Df P w K mg base "require_number" 5 (spD K A_req_n) := by
  have D := df_has_number (P := P) (w := w) (base := base) T
  refine df_of T.a_require_number sc_require_number (fun ds d h => ?_) (fun fa cdv A' outer s H E S' ds d hr h => ?_)
  · obtain ⟨f, v, _, _, rfl, _⟩ := h; rfl
  · obtain ⟨f, v, ok, hv, rfl, rfl⟩ := h
    refine vs_ifB (vb_not (vb_val (vd_call D hr (by decide) (vl_cons (vd_var 0) (vl_cons (vd_var 1) vl_nil)) ⟨f, v, ok, rfl, rfl⟩))) (fun c => ?_) (fun c => vs_nil (vs_nil rfl))
    rw [hv] at c; cases c
/-! ### round_to -/
def A_round_to : List PyData → PyData → Prop := fun ds d => ∃ (f : Form) (a : Int) (b : Nat), f.Ok ∧ a.natAbs ≤ 10 ^ 60 ∧ 0 < b ∧ b ≤ 10 ^ 60 ∧ ds = [encF f, .int a, .int (b : Int)] ∧ d = encV f (rndV f a b (0 - f.low))
theorem df_round_to (T : Txt w K mg) : Df P w K mg base "round_to" 6 (spD K A_round_to) := by
  have D2 := df_require_format (P := P) (w := w) (base := base) T
  have DW := df_is_within (P := P) (w := w) (base := base) T
  obtain ⟨t, hm⟩ := T.c_GREATEST_PART
  refine df_of T.a_round_to sc_round_to (fun ds d h => ?_) (fun fa cdv A' outer s H E S' ds d hr h => ?_)
  · obtain ⟨f, a, b, _, _, _, _, rfl, _⟩ := h; rfl
  · obtain ⟨f, a, b, ok, ha, hb0, hb, rfl, rfl⟩ := h
    have big : (10 : Nat) ^ 60 < 2 ^ 200 := by decide +kernel
    refine vs_expr (VE.to (vd_call D2 hr (by decide) (vl_cons (vd_var 0) vl_nil) ⟨f, ok, rfl, rfl⟩) ?_)
    refine vs_ifB (VB.is (d' := false) (VW.vt (vwb_or (vb_not (vb_val (vd_call DW hr (by decide) (vl_cons (vd_var 1) (vl_cons (vd_neg (vd_gint hm)) (vl_cons (vd_gint hm) vl_nil))) ⟨.int a, _, _, rfl, rfl⟩))) fun _ => vwb_or1 (vb_not (vb_val (vd_call DW hr (by decide) (vl_cons (vd_var 2) (vl_cons vd_int (vl_cons (vd_gint hm) vl_nil))) ⟨.int (b : Int), _, _, rfl, rfl⟩))))) (by simp only [within, Bool.or_eq_false_iff, Bool.not_eq_false', Bool.and_eq_true, decide_eq_true_eq]; omega)) (fun c => by cases c) (fun _ => vs_nil ?_)
    exact vs_ret (vd_call (df_from_units T) hr (by decide) (vl_cons (vd_var 0) (vl_cons (vd_call (df_round_value T) hr (by decide) (vl_cons (vd_var 0) (vl_cons (vd_var 1) (vl_cons (vd_var 2) (vl_cons vd_int vl_nil)))) ⟨f, a, b, 0, ok, hb0, pow_mono (Nat.lt_of_le_of_lt ha big) (by decide), pow_mono (Nat.lt_of_le_of_lt hb big) (by decide), by decide, by decide, rfl, rfl⟩) vl_nil)) ⟨f, rndV f a b (0 - f.low), ok, rndV_small ok, rfl, rfl⟩)
/-! ### _require_operands -/
def A_req_o : List PyData → PyData → Prop := fun ds d => ∃ (f : Form) (v v2 : PyData), f.Ok ∧ hasB f v = true ∧ hasB f v2 = true ∧ ds = [encF f, v, v2] ∧ d = .none
theorem df__require_operands (T : Txt w K mg) : Df P w K mg base "_require_operands" 6 (spD K A_req_o) := by
  have D := df_require_number (P := P) (w := w) (base := base) T
  have D2 := df_require_format (P := P) (w := w) (base := base) T
  refine df_of T.a__require_operands sc__require_operands (fun ds d h => ?_) (fun fa cdv A' outer s H E S' ds d hr h => ?_)
  · obtain ⟨f, v, v2, _, _, _, rfl, _⟩ := h; rfl
  · obtain ⟨f, v, v2, ok, hv, hv2, rfl, rfl⟩ := h
    refine vs_expr (VE.to (vd_call D2 hr (by decide) (vl_cons (vd_var 0) vl_nil) ⟨f, ok, rfl, rfl⟩) ?_)
    refine vs_expr (VE.to (vd_call D hr (by decide) (vl_cons (vd_var 0) (vl_cons (vd_var 1) vl_nil)) ⟨f, v, ok, hv, rfl, rfl⟩) ?_)
    exact vs_expr (VE.to (vd_call D hr (by decide) (vl_cons (vd_var 0) (vl_cons (vd_var 2) vl_nil)) ⟨f, v2, ok, hv2, rfl, rfl⟩) (vs_nil rfl))
/-! ### add -/
def A_add : List PyData → PyData → Prop := fun ds d => ∃ (f : Form) (u v : Int), f.Ok ∧ isNum f u = true ∧ isNum f v = true ∧ ds = [encF f, valD f u, valD f v] ∧ d = encV f (rnd f (u + v) 1)
theorem df_add (T : Txt w K mg) : Df P w K mg base "add" 7 (spD K A_add) := by
  have D := df__require_operands (P := P) (w := w) (base := base) T
  refine df_of T.a_add sc_add (fun ds d h => ?_) (fun fa cdv A' outer s H E S' ds d hr h => ?_)
  · obtain ⟨f, u, v, _, _, _, rfl, _⟩ := h; rfl
  · obtain ⟨f, u, v, ok, hu, hv, rfl, rfl⟩ := h
    have lu := isNum_lt ok hu
    have lv := isNum_lt ok hv
    have lo := ok.lo
    have hi := ok.hi
    refine vs_expr (VE.to (vd_call D hr (by decide) (vl_cons (vd_var 0) (vl_cons (vd_var 1) (vl_cons (vd_var 2) vl_nil))) ⟨f, _, _, ok, hasB_val ok hu, hasB_val ok hv, rfl, rfl⟩) ?_)
    refine vs_ret (vd_call (df_from_units T) hr (by decide) (vl_cons (vd_var 0) (vl_cons (vd_call (df_round_units T) hr (by decide) (vl_cons (vd_var 0) (vl_cons (vd_add (vd_call (df_to_units T) hr (by decide) (vl_cons (vd_var 0) (vl_cons (vd_var 1) vl_nil)) (to_val ok lu)) (vd_call (df_to_units T) hr (by decide) (vl_cons (vd_var 0) (vl_cons (vd_var 2) vl_nil)) (to_val ok lv))) (vl_cons vd_int vl_nil))) ⟨f, u + v, 1, ok, by decide, ?_, by decide, rfl, rfl⟩) vl_nil)) ⟨f, _, ok, rnd_small ok, rfl, rfl⟩)
    exact pow_mono (a := 40) (by omega) (by decide)
/-! ### subtract -/
def A_subtract : List PyData → PyData → Prop := fun ds d => ∃ (f : Form) (u v : Int), f.Ok ∧ isNum f u = true ∧ isNum f v = true ∧ ds = [encF f, valD f u, valD f v] ∧ d = encV f (rnd f (u - v) 1)
theorem df_subtract (T : Txt w K mg) : Df P w K mg base "subtract" 7 (spD K A_subtract) := by
  have D := df__require_operands (P := P) (w := w) (base := base) T
  refine df_of T.a_subtract sc_subtract (fun ds d h => ?_) (fun fa cdv A' outer s H E S' ds d hr h => ?_)
  · obtain ⟨f, u, v, _, _, _, rfl, _⟩ := h; rfl
  · obtain ⟨f, u, v, ok, hu, hv, rfl, rfl⟩ := h
    have lu := isNum_lt ok hu
    have lv := isNum_lt ok hv
    have lo := ok.lo
    have hi := ok.hi
    refine vs_expr (VE.to (vd_call D hr (by decide) (vl_cons (vd_var 0) (vl_cons (vd_var 1) (vl_cons (vd_var 2) vl_nil))) ⟨f, _, _, ok, hasB_val ok hu, hasB_val ok hv, rfl, rfl⟩) ?_)
    refine vs_ret (vd_call (df_from_units T) hr (by decide) (vl_cons (vd_var 0) (vl_cons (vd_call (df_round_units T) hr (by decide) (vl_cons (vd_var 0) (vl_cons (vd_sub (vd_call (df_to_units T) hr (by decide) (vl_cons (vd_var 0) (vl_cons (vd_var 1) vl_nil)) (to_val ok lu)) (vd_call (df_to_units T) hr (by decide) (vl_cons (vd_var 0) (vl_cons (vd_var 2) vl_nil)) (to_val ok lv))) (vl_cons vd_int vl_nil))) ⟨f, u - v, 1, ok, by decide, ?_, by decide, rfl, rfl⟩) vl_nil)) ⟨f, _, ok, rnd_small ok, rfl, rfl⟩)
    exact pow_mono (a := 40) (by omega) (by decide)
/-! ### multiply -/
def A_multiply : List PyData → PyData → Prop := fun ds d => ∃ (f : Form) (u v : Int), f.Ok ∧ isNum f u = true ∧ isNum f v = true ∧ ds = [encF f, valD f u, valD f v] ∧ d = encV f (rndV f (u * v) 1 f.low)
theorem df_multiply (T : Txt w K mg) : Df P w K mg base "multiply" 7 (spD K A_multiply) := by
  have D := df__require_operands (P := P) (w := w) (base := base) T
  refine df_of T.a_multiply sc_multiply (fun ds d h => ?_) (fun fa cdv A' outer s H E S' ds d hr h => ?_)
  · obtain ⟨f, u, v, _, _, _, rfl, _⟩ := h; rfl
  · obtain ⟨f, u, v, ok, hu, hv, rfl, rfl⟩ := h
    have lu := isNum_lt ok hu
    have lv := isNum_lt ok hv
    have lo := ok.lo
    have hi := ok.hi
    have hh1 := hasB_val ok hu
    have hh2 := hasB_val ok hv
    obtain ⟨n1, k1, p1⟩ := pair_of f (pow_mono lu (by decide))
    obtain ⟨n2, k2, p2⟩ := pair_of f (pow_mono lv (by decide))
    rw [p1.val] at hh1 ⊢
    rw [p2.val] at hh2 ⊢
    have b1 := pair_k ok p1 lu
    have b2 := pair_k ok p2 lv
    have l1 := p1.le
    have l2 := p2.le
    refine vs_expr (VE.to (vd_call D hr (by decide) (vl_cons (vd_var 0) (vl_cons (vd_var 1) (vl_cons (vd_var 2) vl_nil))) ⟨f, _, _, ok, hh1, hh2, rfl, rfl⟩) ?_)
    refine vs_ret (vd_call (df_from_units T) hr (by decide) (vl_cons (vd_var 0) (vl_cons (vd_call (df_round_value T) hr (by decide) (vl_cons (vd_var 0) (vl_cons (vd_mul (vd_ixT (vd_var 1) vd_int rfl) (vd_ixT (vd_var 2) vd_int rfl) ?_) (vl_cons vd_int (vl_cons (vd_add (vd_ixT (vd_var 1) vd_int rfl) (vd_ixT (vd_var 2) vd_int rfl)) vl_nil)))) ⟨f, n1 * n2, 1, k1 + k2, ok, by decide, ?_, by decide, ?_, ?_, rfl, rfl⟩) vl_nil)) ⟨f, rndV f (n1 * n2) 1 (k1 + k2 - f.low), ok, rndV_small ok, rfl, ?_⟩)
    · exact mulx_ok (a := 30) (b := 30) (by omega) (by omega) (by decide)
    · rw [Int.natAbs_mul]
      have h1 : n1.natAbs * n2.natAbs < 2 ^ 30 * 2 ^ 30 := Nat.mul_lt_mul'' (by omega) (by omega)
      rw [← Nat.pow_add] at h1
      exact pow_mono h1 (by decide)
    · omega
    · omega
    · rw [mul_pairs p1 p2]
/-! ### divide -/
def A_divide : List PyData → PyData → Prop := fun ds d => ∃ (f : Form) (u v : Int), f.Ok ∧ isNum f u = true ∧ isNum f v = true ∧ v ≠ 0 ∧ ds = [encF f, valD f u, valD f v] ∧ d = encV f (rndV f ((if 0 < v then 1 else -1) * u) v.natAbs (-f.low))
theorem df_divide (T : Txt w K mg) : Df P w K mg base "divide" 7 (spD K A_divide) := by
  have D := df__require_operands (P := P) (w := w) (base := base) T
  refine df_of T.a_divide sc_divide (fun ds d h => ?_) (fun fa cdv A' outer s H E S' ds d hr h => ?_)
  · obtain ⟨f, u, v, _, _, _, _, rfl, _⟩ := h; rfl
  · obtain ⟨f, u, v, ok, hu, hv, h0, rfl, rfl⟩ := h
    have nd := sc_divide.nd
    have lu := isNum_lt ok hu
    have lv := isNum_lt ok hv
    have lo := ok.lo
    have hi := ok.hi
    have hh1 := hasB_val ok hu
    have hh2 := hasB_val ok hv
    obtain ⟨n1, k1, p1⟩ := pair_of f (pow_mono lu (by decide))
    obtain ⟨n2, k2, p2⟩ := pair_of f (pow_mono lv (by decide))
    rw [p1.val] at hh1 ⊢
    rw [p2.val] at hh2 ⊢
    have b1 := pair_k ok p1 lu
    have b2 := pair_k ok p2 lv
    have l1 := p1.le
    have l2 := p2.le
    have z2 : n2 ≠ 0 := fun z => h0 (p2.zero.mp z)
    have hsg : (0 < v ↔ 0 < n2) := by
      have hpw := two_pow_pos (k2 - f.low).toNat
      have e := p2.u_eq
      constructor
      · intro h
        rcases (show n2 < 0 ∨ 0 < n2 by omega) with z | z
        · have := Int.mul_neg_of_neg_of_pos z hpw
          rw [← e] at this; omega
        · exact z
      · intro h
        rw [e]; exact Int.mul_pos h hpw
    have es : (if 0 < v then (1 : Int) else -1) = if 0 < n2 then 1 else -1 := by
      by_cases c : 0 < v
      · rw [if_pos c, if_pos (hsg.mp c)]
      · rw [if_neg c, if_neg (fun z => c (hsg.mpr z))]
    rw [es, ← div_pairs p1 p2 h0 (by split <;> simp)]
    refine vs_expr (VE.to (vd_call D hr (by decide) (vl_cons (vd_var 0) (vl_cons (vd_var 1) (vl_cons (vd_var 2) vl_nil))) ⟨f, _, _, ok, hh1, hh2, rfl, rfl⟩) ?_)
    refine vs_ifB (vb_eqI (vd_ixT (vd_var 2) vd_int rfl) vd_int) (fun c => absurd (of_decide_eq_true c) z2) (fun _ => vs_nil ?_)
    refine vs_asg 3 (VE.to (VD.is (d' := .int ((if 0 < n2 then 1 else -1) * n1)) (vd_ite (vb_gt (vd_ixT (vd_var 2) vd_int rfl) vd_int) (fun _ => vd_ixT (vd_var 1) vd_int rfl) (fun _ => vd_neg (vd_ixT (vd_var 1) vd_int rfl))) ?_) ?_) nd
    · by_cases c : 0 < n2
      · rw [if_pos (decide_eq_true c), if_pos c, Int.one_mul]
      · rw [if_neg (by simpa using c), if_neg c, Int.neg_mul, Int.one_mul]
    refine vs_ret (vd_call (df_from_units T) hr (by decide) (vl_cons (vd_var 0) (vl_cons (vd_call (df_round_value T) hr (by decide) (vl_cons (vd_var 0) (vl_cons (vd_var 3) (vl_cons (vd_abs T.m_abs (vd_ixT (vd_var 2) vd_int rfl)) (vl_cons (vd_sub (vd_ixT (vd_var 1) vd_int rfl) (vd_ixT (vd_var 2) vd_int rfl)) vl_nil)))) ⟨f, (if 0 < n2 then 1 else -1) * n1, n2.natAbs, k1 - k2, ok, by omega, ?_, ?_, by omega, by omega, rfl, rfl⟩) vl_nil)) ⟨f, _, ok, rndV_small ok, rfl, rfl⟩)
    · have : ((if 0 < n2 then (1 : Int) else -1) * n1).natAbs = n1.natAbs := by split <;> simp
      rw [this]
      exact pow_mono (a := 30) (by omega) (by decide)
    · exact pow_mono (a := 30) (by omega) (by decide)
theorem dfx_divide (T : Txt w K mg) {C : Addr} (hX : ExcAt K mg "NotMade" C) : Df P w K mg base "divide" 7 (spX K C fun ds => ∃ (f : Form) (u : Int), f.Ok ∧ isNum f u = true ∧ ds = [encF f, valD f u, valD f 0]) := by
  have D := df__require_operands (P := P) (w := w) (base := base) T
  refine dfx_of T.a_divide sc_divide (fun ds h => ?_) (fun fa cdv A' outer s H E S' ds hr h => ?_)
  · obtain ⟨f, u, _, _, rfl⟩ := h; rfl
  · obtain ⟨f, u, ok, hu, rfl⟩ := h
    refine vx_expr (VE.to (vd_call D hr (by decide) (vl_cons (vd_var 0) (vl_cons (vd_var 1) (vl_cons (vd_var 2) vl_nil))) ⟨f, _, _, ok, hasB_val ok hu, hasB_val ok (numN_zero f), rfl, rfl⟩) ?_)
    refine vx_if (vb_eqI (vd_ixT (ds := [.int 0, .int 0]) (vd_var 2) vd_int rfl) vd_int) (fun _ => ?_) (fun c => by cases c)
    exact vx_own hX (takes_of rfl rfl rfl rfl) (fun H' h => h)
/-! ### square_root -/
def A_sqrt : List PyData → PyData → Prop := fun ds d => ∃ (f : Form) (u : Nat), f.Ok ∧ isNum f u = true ∧ ds = [encF f, valD f u] ∧ d = encV f (rootR f u)
theorem df_square_root (T : Txt w K mg) : Df P w K mg base "square_root" 6 (spD K A_sqrt) := by
  have D := df_require_number (P := P) (w := w) (base := base) T
  have D2 := df_require_format (P := P) (w := w) (base := base) T
  obtain ⟨t, hm⟩ := T.c_ROOT_PLACES
  refine df_of T.a_square_root sc_square_root (fun ds d h => ?_) (fun fa cdv A' outer s H E S' ds d hr h => ?_)
  · obtain ⟨f, u, _, _, rfl, _⟩ := h; rfl
  · obtain ⟨f, u, ok, hu, rfl, rfl⟩ := h
    have nd := sc_square_root.nd
    have lu := isNum_lt ok hu
    have lo := ok.lo
    have hi := ok.hi
    have hh1 := hasB_val ok hu
    obtain ⟨n, k, p1⟩ := pair_of f (pow_mono lu (by decide))
    rw [p1.val] at hh1 ⊢
    have b1 := pair_k ok p1 lu
    have l1 := p1.le
    have n0 : 0 ≤ n := by
      rcases (show n < 0 ∨ 0 ≤ n by omega) with z | z
      · have := Int.mul_neg_of_neg_of_pos z (two_pow_pos (k - f.low).toNat)
        rw [← p1.u_eq] at this; omega
      · exact z
    have hk : n ≠ 0 → f.low ≤ k := fun z => (p1.odd z).2.1
    refine vs_expr (VE.to (vd_call D2 hr (by decide) (vl_cons (vd_var 0) vl_nil) ⟨f, ok, rfl, rfl⟩) ?_)
    refine vs_expr (VE.to (vd_call D hr (by decide) (vl_cons (vd_var 0) (vl_cons (vd_var 1) vl_nil)) ⟨f, _, ok, hh1, rfl, rfl⟩) ?_)
    refine vs_unp (pn_cons 2 (pn_cons 3 pn_nil nd) nd) ((vd_var 1).to ⟨_, rfl, rfl, ?_⟩)
    refine vs_ifB (vb_lt (vd_var 2) vd_int) (fun c => absurd (of_decide_eq_true c) (by omega)) (fun _ => vs_nil ?_)
    have e82 : k + 2 * 41 = k + 82 := by omega
    have hA : n * 2 ^ (k + 2 * 41).toNat = ((u * 2 ^ (f.low + 82).toNat : Nat) : Int) := by
      rw [e82]
      by_cases z : n = 0
      · have : (u : Int) = 0 := p1.zero.mp z
        have : u = 0 := by omega
        rw [z, this]; simp
      · have hkl := hk z
        rw [Int.natCast_mul, p1.u_eq, Int.natCast_pow, Int.mul_assoc]
        congr 1
        show _ = (2 : Int) ^ (k - f.low).toNat * 2 ^ (f.low + 82).toNat
        rw [← Int.pow_add]
        congr 1
        omega
    have hAs : u * 2 ^ (f.low + 82).toNat < 2 ^ 200 := by
      have h1 : 2 ^ (f.low + 82).toNat ≤ 2 ^ 122 := Nat.pow_le_pow_right (by decide) (by omega)
      have h2 : u < 2 ^ 30 := by omega
      exact Nat.lt_of_lt_of_le (Nat.mul_lt_mul_of_lt_of_le h2 h1 (by decide)) (by decide)
    refine vs_asg 4 (VE.to (VD.is (vd_shl (vd_var 2) (vd_add (vd_var 3) (vd_mul vd_int (vd_gint hm) (mulx_ok (a := 10) (b := 10) (by decide) (by decide) (by decide)))) (by have h := shl_ok (i := n) (j := (k + 2 * 41).toNat) (n := 60) (by omega) (by omega); rwa [Int.toNat_of_nonneg (by omega)] at h)) (congrArg PyData.int hA)) ?_) nd
    generalize hAg : u * 2 ^ (f.low + 82).toNat = A at *
    refine vs_asg 5 (VE.to (VD.is (vd_isqrt T.i_isqrt (vd_var 4) (by omega) (by
      have : (A : Int) < ((2 ^ 1000 : Nat) : Int) := by exact_mod_cast pow_mono hAs (by decide)
      exact_mod_cast this)) (by rw [Int.toNat_natCast])) ?_) nd
    obtain ⟨hs1, hs2⟩ := Float64.isqrt_spec A
    have hss : Float64.isqrt A < 2 ^ 100 := by
      rcases Nat.lt_or_ge (Float64.isqrt A) (2 ^ 100) with z | z
      · exact z
      · have := Nat.mul_le_mul z z
        have e : (2 : Nat) ^ 100 * 2 ^ 100 = 2 ^ 200 := by rw [← Nat.pow_add]
        omega
    have hR : rootR f u = rndV f ((2 * Float64.isqrt A + stk A (Float64.isqrt A) : Nat) : Int) 1 (-42 - f.low) := by
      unfold rootR rndV
      rw [hAg, if_pos (by omega)]
      congr 1
      rw [Nat.one_mul, show (-(-42 - f.low)).toNat = 2 + (f.low + 40).toNat by omega, Nat.pow_add]
    rw [hR]
    generalize Float64.isqrt A = s at *
    refine vs_asg 6 (VE.to (VD.is (d' := .int ((2 * s + stk A s : Nat) : Int)) (vd_ite (vb_eqI (vd_mul (vd_var 5) (vd_var 5) (mulx_ok (a := 100) (b := 100) (by omega) (by omega) (by decide))) (vd_var 4)) (fun _ => vd_mul vd_int (vd_var 5) (mulx_ok (a := 10) (b := 100) (by decide) (by omega) (by decide))) (fun _ => vd_add (vd_mul vd_int (vd_var 5) (mulx_ok (a := 10) (b := 100) (by decide) (by omega) (by decide))) vd_int)) ?_) ?_) nd
    · unfold stk
      by_cases c : s * s = A
      · rw [if_pos (by rw [decide_eq_true_eq, ← c]; exact_mod_cast rfl), if_pos c]; congr 1
      · rw [if_neg (by rw [decide_eq_true_eq]; exact_mod_cast c), if_neg c]; congr 1
    have hst : stk A s ≤ 1 := by unfold stk; split <;> omega
    have e41 : -(41 : Int) - 1 - f.low = -42 - f.low := by omega
    refine vs_ret (vd_call (df_from_units T) hr (by decide) (vl_cons (vd_var 0) (vl_cons (vd_call (df_round_value T) hr (by decide) (vl_cons (vd_var 0) (vl_cons (vd_var 6) (vl_cons vd_int (vl_cons (vd_sub (vd_neg (vd_gint hm)) vd_int) vl_nil)))) ⟨f, ((2 * s + stk A s : Nat) : Int), 1, -41 - 1, ok, by decide, pow_mono (a := 150) (by omega) (by decide), by decide, by decide, by decide, rfl, rfl⟩) vl_nil)) ⟨f, _, ok, rndV_small ok, rfl, ?_⟩)
    rw [e41]
theorem dfx_square_root (T : Txt w K mg) {C : Addr} (hX : ExcAt K mg "NotMade" C) : Df P w K mg base "square_root" 6 (spX K C fun ds => ∃ (f : Form) (u : Int), f.Ok ∧ isNum f u = true ∧ u < 0 ∧ ds = [encF f, valD f u]) := by
  have D := df_require_number (P := P) (w := w) (base := base) T
  have D2 := df_require_format (P := P) (w := w) (base := base) T
  refine dfx_of T.a_square_root sc_square_root (fun ds h => ?_) (fun fa cdv A' outer s H E S' ds hr h => ?_)
  · obtain ⟨f, u, _, _, _, rfl⟩ := h; rfl
  · obtain ⟨f, u, ok, hu, h0, rfl⟩ := h
    have nd := sc_square_root.nd
    have hh1 := hasB_val ok hu
    obtain ⟨n, k, p1⟩ := pair_of f (pow_mono (isNum_lt ok hu) (by decide))
    rw [p1.val] at hh1 ⊢
    have n0 : n < 0 := by
      rcases (show n < 0 ∨ 0 ≤ n by omega) with z | z
      · exact z
      · have := Int.mul_nonneg z (Int.le_of_lt (two_pow_pos (k - f.low).toNat))
        rw [← p1.u_eq] at this; omega
    refine vx_expr (VE.to (vd_call D2 hr (by decide) (vl_cons (vd_var 0) vl_nil) ⟨f, ok, rfl, rfl⟩) ?_)
    refine vx_expr (VE.to (vd_call D hr (by decide) (vl_cons (vd_var 0) (vl_cons (vd_var 1) vl_nil)) ⟨f, _, ok, hh1, rfl, rfl⟩) ?_)
    refine vx_unp (pn_cons 2 (pn_cons 3 pn_nil nd) nd) ((vd_var 1).to ⟨_, rfl, rfl, ?_⟩)
    refine vx_if (vb_lt (vd_var 2) vd_int) (fun _ => ?_) (fun c => absurd n0 (of_decide_eq_false c))
    exact vx_own hX (takes_of rfl rfl rfl rfl) (fun H' h => h)
/-! ### _law_taken -/
theorem df__law_taken (T : Txt w K mg) : Df P w K mg base "_law_taken" 1 (spR K A_taken) := by
  have mI := T.m_int
  have mL := T.m_len
  obtain ⟨f, fd, F, hm, hb⟩ := T.a__law_taken.ex
  refine ⟨f, fd, _, F.okX sc__law_taken ?_ (fun cdv A' outer s H vs Q E hr hs => ?_), hm, F.kp, hb⟩
  · rintro vs H Q E ⟨S', r, scr, vs', ds, k, rfl, _, _, _, hn, ⟨m, _, _, rfl, rfl⟩, _⟩
    show vs'.length + 1 = 2
    rw [hn.length]; rfl
  · obtain ⟨S, r, scr, vs', ds, k, rfl, hs, hdom, ⟨⟨i, c2, c3, hi, h20, h2l, h3, hrow⟩, hsc⟩, hn, ⟨m, hm0, hm1, rfl, rfl⟩, q⟩ := hs
    obtain ⟨ns, hnl, hsq⟩ := hsc.sq
    cases hn with
    | cons n1 n2 =>
    cases n2
    cases n1
    have hdiv : ∀ z : Int, CDivW z m := fun z => wide_div (b := 64) hm0 (by omega) (by decide) (by decide)
    -- what is left behind a draw
    have fin : ∀ (i' s' c' : Int) (v : Int), 0 ≤ i' → 0 ≤ s' → s' < 2147483647 → 0 ≤ c' → 0 ≤ v → v < m → ∀ H' : Hp, H' r = some (.lst [.ref scr, .int i', .int s', .int c']) → Xt (fun a _ => a = r) H H' → Q (.int v) H' := fun i' s' c' v a1 a2 a3 a4 a5 a6 H' hH' e => by
      refine q _ H' (.int v) e ⟨⟨i', s', c', a1, a2, a3, a4, hH'⟩, hsc.mono e⟩ (.int v) ⟨v, rfl, a5, a6⟩
    have xt : ∀ (H1 : Hp) (xs : List V), Xt (fun a _ => a = r) H H1 → Xt (fun a _ => a = r) H (upd H1 r (.lst xs)) := fun H1 xs e => e.trans (.put (.inl fun _ => rfl))
    have nd := sc__law_taken.nd
    refine ⟨_, PSs.nox (pss_cons (ps_if (pt_cmpR op_gt (pe_ix ix_list (pv 0) pe_int (fun _ _ => rfl)) pe_int (nomark _))
        (pss_cons (ps_set (i := 2) nd rfl (.inl rfl) (pe_op op_mod (pe_callTy call_int1 rfl mI (by decide +kernel) (pa_cons (pe_ix ix_list (pv 0) pe_int (fun _ _ => rfl)) pa_nil)) (pv 1)))
        (pss_cons (ps_asg (pe_op op_fdivW (pe_ix ix_list (pv 0) pe_int (fun _ _ => rfl)) (pv 1)) (pg_sub (pv 0) pe_int set_list))
        (pss_one (ps_ret (pv 2))))) pss_nil)
      (pss_cons (ps_asg (pe_op op_add (pe_ix ix_list (pv 0) pe_int (fun _ _ => rfl)) pe_int) (pg_sub (pv 0) pe_int set_list))
      (pss_cons (ps_if (pt_cmpR op_gt (pe_ix ix_list (pv 0) pe_int (fun _ _ => rfl)) (pe_callB call_len_seq (by rfl) mL PySem.boot_len (pa_cons (pe_ix ix_list (pv 0) pe_int (fun _ _ => rfl)) pa_nil)) (nomark _))
        (pss_cons (ps_asg (pe_op op_mod (pe_callTy call_int1 rfl mI (by decide +kernel) (pa_cons (pe_op op_add (pe_op op_mulX (pe_ix ix_list (pv 0) pe_int (fun _ _ => rfl)) pe_int) pe_int) pa_nil)) pe_int) (pg_sub (pv 0) pe_int set_list))
        (pss_one (ps_ret (pe_op op_mod (pe_callTy call_int1 rfl mI (by decide +kernel) (pa_cons (pe_op op_fdivW (pe_ix ix_list (pv 0) pe_int (fun _ _ => rfl)) pe_int) pa_nil)) (pv 1))))) pss_nil)
      (pss_cons (ps_set (i := 3) nd rfl (.inl rfl) (pe_ix ix_list (pe_ix ix_list (pv 0) pe_int (fun _ _ => rfl)) (pe_op op_sub (pe_ix ix_list (pv 0) pe_int (fun _ _ => rfl)) pe_int) (fun _ _ => rfl)))
      (pss_cons (ps_asg (pe_op op_mod (pe_callTy call_int1 rfl mI (by decide +kernel) (pa_cons (pe_op op_add (pe_op op_add (pe_op op_mulX (pe_ix ix_list (pv 0) pe_int (fun _ _ => rfl)) pe_int) (pv 3)) pe_int) pa_nil)) pe_int) (pg_sub (pv 0) pe_int set_list))
      (pss_cons (ps_if (pt_cmpR op_ge (pv 3) (pe_op op_pow pe_int pe_int) (nomark _)) (pss_one (ps_asg (pe_op op_fdivW (pv 3) (pv 1)) (pg_sub (pv 0) pe_int set_list))) pss_nil)
      (pss_one (ps_ret (pe_op op_mod (pe_callTy call_int1 rfl mI (by decide +kernel) (pa_cons (pv 3) pa_nil)) (pv 1)))))))))), ?_⟩
    have sq0 := SqL.of (K := K) hrow
    refine ⟨_, rfl, r, _, 3, _, rfl, rfl, sq0, rfl, _, _, rfl, rfl, _, rfl, ite2 (fun c0 => ?_) (fun c0 => ?_)⟩
    · -- the rest of a great cell
      refine ⟨_, rfl, r, _, 3, _, rfl, rfl, sq0, rfl, .inl ⟨_, rfl, _, rfl, _, _, rfl, rfl, hm0, ?_⟩⟩
      refine ⟨_, rfl, r, _, 3, _, rfl, rfl, sq0, rfl, _, rfl, _, _, rfl, rfl, hdiv _, ?_⟩
      refine ⟨_, rfl, r, _, 3, 3, rfl, rfl, hrow, rfl, ?_⟩
      refine ⟨_, rfl, ?_⟩
      exact fin i c2 (c3 / m) (c3 % m) hi h20 h2l (Int.ediv_nonneg h3 (by omega)) (Int.emod_nonneg _ (by omega)) (Int.emod_lt_of_pos _ hm0) _ upd_same (xt _ _ (.refl _))
    · refine ⟨_, rfl, r, _, 1, _, rfl, rfl, sq0, rfl, _, _, rfl, rfl, ?_⟩
      refine ⟨_, rfl, r, _, 1, 1, rfl, rfl, hrow, rfl, ?_⟩
      have e1 := xt H ([V.ref scr, .int i, .int c2, .int c3].set 1 (.int (i + 1))) (.refl _)
      generalize hH1 : upd H r (.lst ([V.ref scr, .int i, .int c2, .int c3].set 1 (.int (i + 1)))) = H1 at e1 ⊢
      have hr1 : H1 r = some (.lst [V.ref scr, .int (i + 1), .int c2, .int c3]) := by rw [← hH1]; exact upd_same
      have sq1 := SqL.of (K := K) hr1
      obtain ⟨ns', hnl', hsq'⟩ := (hsc.mono e1).sq
      refine ⟨_, rfl, r, _, 1, _, rfl, rfl, sq1, rfl, _, rfl, r, _, 0, _, rfl, rfl, sq1, rfl, _, _, rfl, .inl hsq', _, _, rfl, rfl, _, rfl, ite2 (fun c1 => ?_) (fun c1 => ?_)⟩
      · refine ⟨_, rfl, r, _, 2, _, rfl, rfl, sq1, rfl, _, _, rfl, rfl, mulx_ok (a := 40) (b := 40) (by omega) (by decide) (by decide), _, _, rfl, rfl, .inl ⟨_, rfl, _, _, rfl, rfl, (by decide : (0 : Int) < 2147483647), ?_⟩⟩
        refine ⟨_, rfl, r, _, 2, 2, rfl, rfl, hr1, rfl, ?_⟩
        have b1 := Int.emod_nonneg (c2 * 48271 + 11) (show (2147483647 : Int) ≠ 0 by decide)
        have b2 := Int.emod_lt_of_pos (c2 * 48271 + 11) (show (0 : Int) < 2147483647 by decide)
        have hr2 : (upd H1 r (.lst ([V.ref scr, .int (i + 1), .int c2, .int c3].set 2 (.int ((c2 * 48271 + 11) % 2147483647))))) r = some (.lst [V.ref scr, .int (i + 1), .int ((c2 * 48271 + 11) % 2147483647), .int c3]) := upd_same
        refine ⟨_, rfl, r, _, 2, _, rfl, rfl, SqL.of hr2, rfl, _, _, rfl, rfl, wide_div (b := 64) (by decide) (by decide) (by decide) (by decide), .inl ⟨_, rfl, _, rfl, _, _, rfl, rfl, hm0, ?_⟩⟩
        exact fin (i + 1) _ c3 _ (by omega) b1 b2 h3 (Int.emod_nonneg _ (by omega)) (Int.emod_lt_of_pos _ hm0) _ hr2 (xt _ _ e1)
      · have hlen : i + 1 ≤ (ns'.map V.int).length := by
          have := c1
          simp only [decide_eq_true_eq] at this
          omega
        rw [List.length_map] at hlen
        have hat : ∃ z, ns'[i.toNat]? = some z := ⟨ns'[i.toNat]'(by omega), by simp⟩
        obtain ⟨z, hz⟩ := hat
        have hz' : atI (ns'.map V.int) (i + 1 - 1) = some (.int z) := by
          have e : i + 1 - 1 = ((i.toNat : Nat) : Int) := by omega
          rw [e]
          exact atI_nat (by rw [List.getElem?_map, hz]; rfl)
        refine ⟨_, rfl, r, _, 0, _, rfl, rfl, sq1, rfl, _, rfl, r, _, 1, _, rfl, rfl, sq1, rfl, _, _, rfl, rfl, _, _, _, _, rfl, rfl, hsq', hz', ?_⟩
        refine ⟨_, rfl, r, _, 2, _, rfl, rfl, sq1, rfl, _, _, rfl, rfl, mulx_ok (a := 40) (b := 40) (by omega) (by decide) (by decide), _, rfl, _, _, rfl, rfl, _, _, rfl, rfl, .inl ⟨_, rfl, _, _, rfl, rfl, (by decide : (0 : Int) < 2147483647), ?_⟩⟩
        refine ⟨_, rfl, r, _, 2, 2, rfl, rfl, hr1, rfl, ?_⟩
        have b1 := Int.emod_nonneg (c2 * 48271 + z + 11) (show (2147483647 : Int) ≠ 0 by decide)
        have b2 := Int.emod_lt_of_pos (c2 * 48271 + z + 11) (show (0 : Int) < 2147483647 by decide)
        have e2 := xt H1 ([V.ref scr, .int (i + 1), .int c2, .int c3].set 2 (.int ((c2 * 48271 + z + 11) % 2147483647))) e1
        generalize hH2 : upd H1 r (.lst ([V.ref scr, .int (i + 1), .int c2, .int c3].set 2 (.int ((c2 * 48271 + z + 11) % 2147483647)))) = H2 at e2 ⊢
        have hr2 : H2 r = some (.lst [V.ref scr, .int (i + 1), .int ((c2 * 48271 + z + 11) % 2147483647), .int c3]) := by rw [← hH2]; exact upd_same
        refine ⟨_, rfl, _, _, rfl, rfl, ⟨by decide, by decide, by decide⟩, _, _, rfl, rfl, _, rfl, ite2 (fun c4 => ?_) (fun c4 => ?_)⟩
        · have hz0 : 0 ≤ z := by
            have := c4
            simp only [decide_eq_true_eq] at this
            exact Int.le_trans (by decide) this
          refine ⟨_, rfl, _, rfl, _, _, rfl, rfl, hdiv _, ?_⟩
          refine ⟨_, rfl, r, _, 3, 3, rfl, rfl, hr2, rfl, ?_⟩
          refine ⟨_, rfl, .inl ⟨_, rfl, _, rfl, _, _, rfl, rfl, hm0, ?_⟩⟩
          exact fin (i + 1) _ (z / m) _ (by omega) b1 b2 (Int.ediv_nonneg hz0 (by omega)) (Int.emod_nonneg _ (by omega)) (Int.emod_lt_of_pos _ hm0) _ upd_same (xt _ _ e2)
        · refine ⟨_, rfl, .inl ⟨_, rfl, _, rfl, _, _, rfl, rfl, hm0, ?_⟩⟩
          exact fin (i + 1) _ c3 _ (by omega) b1 b2 h3 (Int.emod_nonneg _ (by omega)) (Int.emod_lt_of_pos _ hm0) _ hr2 e2
/-! ### _law_pick -/
theorem df__law_pick (T : Txt w K mg) : Df P w K mg base "_law_pick" 2 (spR K A_pick) := by
  refine dr_of T.a__law_pick sc__law_pick (fun ds k h => ?_) (fun f cdv A' outer s H E F r ds k hr hF h => ?_)
  · obtain ⟨xs, _, _, rfl, _⟩ := h; rfl
  · obtain ⟨xs, h0, h1, rfl, rfl⟩ := h
    have hl : 0 < xs.length := List.length_pos_iff.mpr h0
    refine vs_ret (ve_ixL (VE.to (vd_var 1) (ve_taken 0 hF (df__law_taken T) hr (by decide) (vd_len T.m_len (vd_var 1) rfl) (by omega) (by omega) fun i a b => ?_)))
    obtain ⟨d, h2, _, h3⟩ := atI_int a b
    exact ⟨xs, i, d, rfl, rfl, h2, h3⟩
/-! ### _law_alike -/
def dpt : Nat → PyData → Prop
  | _, .none => True
  | _, .bool _ => True
  | _, .int _ => True
  | _, .str _ => True
  | n + 1, .list xs => xs.length ≤ 1000 ∧ ∀ x ∈ xs, dpt n x
  | n + 1, .tuple xs => xs.length ≤ 1000 ∧ ∀ x ∈ xs, dpt n x
  | _, _ => False
def A_alike (n : Nat) : List PyData → PyData → Prop := fun ds d => ∃ v : PyData, dpt n v ∧ ds = [v, v] ∧ d = .bool true
theorem df__law_alike (T : Txt w K mg) (n : Nat) : Df P w K mg base "_law_alike" (n + 1) (spD K (A_alike n)) := by
  induction n using Nat.strongRecOn with
  | _ n ih0 =>
    have ih : ∀ m, n = m + 1 → Df P w K mg base "_law_alike" (m + 1) (spD K (A_alike m)) := fun m e => ih0 m (by omega)
    refine df_of T.a__law_alike sc__law_alike (fun ds d h => ?_) (fun fa cdv A' outer s H E S' ds d hr h => ?_)
    · obtain ⟨v, _, rfl, _⟩ := h; rfl
    · obtain ⟨v, hv, rfl, rfl⟩ := h
      have nd := sc__law_alike.nd
      have seqs : ∀ xs, seqOf v = some xs → isStrD v = false → xs.length ≤ 1000 → (∀ x ∈ xs, ∃ m, n = m + 1 ∧ dpt m x) → (isTupD v || isLstD v) = true →
          (∀ (D : Addr) (i : Int) (d : PyData) (X : Cx) (δ : DE) (a b : Expr) (pos : Pos), X.K = K → VD ((Fm.pure S').more D) X a δ v → VD ((Fm.pure S').more D) X b δ (.int i) → atI xs i = some d → PlainIx b → VD ((Fm.pure S').more D) X (.Subscript a b pos) δ d) →
          VS (Fm.pure S') (cxOf (L2.CX P w) P w K mg base ["found", "due", "k"] "_law_alike" (defScope s__law_alike) fa cdv A' outer s H E).nox (defBody s__law_alike) (startD ["found", "due", "k"] ([v, v].map .dat)) { nx := fun _ => PyData.bool true = .none, rt := fun y => y = .bool true } := by
        intro xs hs _ hl hx ht hix
        refine vs_ifB (vb_val (vd_isi2 T.m_isinstance T.m_tuple (by decide +kernel) T.m_list (by decide +kernel) (vd_var 1) (kit_tuple _) (kit_list _))) (fun _ => ?_) (fun c => by rw [ht] at c; cases c)
        refine vs_ifB (VW.vt (vwb_or (vb_not (vb_val (vd_isi2 T.m_isinstance T.m_tuple (by decide +kernel) T.m_list (by decide +kernel) (vd_var 0) (kit_tuple _) (kit_list _)))) fun _ => vwb_or1 (vb_neB (vd_isi T.m_isinstance T.m_list (by decide +kernel) (vd_var 0) (kit_list _)) (vd_isi T.m_isinstance T.m_list (by decide +kernel) (vd_var 1) (kit_list _))))) (fun c => by rw [ht] at c; simp at c) (fun _ => vs_nil ?_)
        refine vs_ifB (vb_neI (vd_len T.m_len (vd_var 0) hs) (vd_len T.m_len (vd_var 1) hs)) (fun c => by simp at c) (fun _ => vs_nil ?_)
        refine vs_ret (ve_two (pe_cmpR (op_eqD hr.units) (pe_sem _ _) (pe_sem _ _) (nomark _)) (ve_lc 2 (fun _ => false) (fun _ _ => True) (vi_range1 T.m_range (VE.to (vd_len T.m_len (vd_var 1) hs) ⟨_, rfl, ⟨by omega, by omega⟩, ?_, ?_, ?_, ?_⟩)) nd (blkOk_by (own := [("k", 2)]) (N := ["found", "due", "k"]) (sc := defScope s__law_alike) (by decide +kernel)) (fun _ _ _ _ _ => pg_name (i := 2) nd rfl (Or.inl rfl))))
        · rw [rngD_len]; omega
        · intro d hd D sh Hs C cl fp
          obtain ⟨i, hi, rfl⟩ := rngD_mem hd
          obtain ⟨z, hz, _, hm⟩ := atI_int (xs := xs) (i := 0 + (i : Int)) (by omega) (by omega)
          obtain ⟨m, hn, hd⟩ := hx z hm
          exact vts_one (VB.is (vb_not (vb_val (vd_call (ih m hn) hr (by omega) (vl_cons (hix D _ z _ _ _ _ _ rfl (vd_var 0) (vd_var 2) hz (fun _ _ => rfl)) (vl_cons (hix D _ z _ _ _ _ _ rfl (vd_var 1) (vd_var 2) hz (fun _ _ => rfl)) vl_nil)) ⟨z, hd, rfl, rfl⟩))) rfl)
        · intro d _ hb; cases hb
        · intro ys hy
          have e : ys = [] := by
            have := LcR.none hy
            exact this
          subst e
          exact VE.to (vd_lst vl_nil) ⟨_, opd_eqD (by rfl) (by rfl), by rfl⟩
      cases v with
      | list xs =>
        cases n with
        | zero => exact hv.elim
        | succ m => exact seqs xs rfl rfl hv.1 (fun x hx => ⟨m, rfl, hv.2 x hx⟩) rfl (fun D i d X δ a b pos _ h1 h2 h3 h4 => vd_ixL h1 h2 h3 h4)
      | tuple xs =>
        cases n with
        | zero => exact hv.elim
        | succ m => exact seqs xs rfl rfl hv.1 (fun x hx => ⟨m, rfl, hv.2 x hx⟩) rfl (fun D i d X δ a b pos _ h1 h2 h3 h4 => vd_ixT h1 h2 h3 h4)
      | dict x => cases n <;> exact hv.elim
      | none =>
        refine vs_ifB (vb_val (vd_isi2 T.m_isinstance T.m_tuple (by decide +kernel) T.m_list (by decide +kernel) (vd_var 1) (kit_tuple _) (kit_list _))) (fun c => by cases c) (fun _ => vs_nil ?_)
        refine vs_ifB (VW.vt (vwb_or (y := true) (vb_isN (vd_var 1) vd_non) fun c => by cases c)) (fun _ => ?_) (fun c => by cases c)
        exact vs_ret (VD.is (vd_and (vd_eqV (vd_var 0) (vd_var 1) rfl rfl rfl) fun _ => vd_one (vd_eqB (vd_isi T.m_isinstance T.m_str (by decide +kernel) (vd_var 0) (kit_str _)) (vd_isi T.m_isinstance T.m_str (by decide +kernel) (vd_var 1) (kit_str _)))) (by simp))
      | str x =>
        refine vs_ifB (vb_val (vd_isi2 T.m_isinstance T.m_tuple (by decide +kernel) T.m_list (by decide +kernel) (vd_var 1) (kit_tuple _) (kit_list _))) (fun c => by cases c) (fun _ => vs_nil ?_)
        refine vs_ifB (VW.vt (vwb_or (vb_isN (vd_var 1) vd_non) fun _ => vwb_or1 (vb_val (vd_isi T.m_isinstance T.m_str (by decide +kernel) (vd_var 1) (kit_str _))))) (fun _ => ?_) (fun c => by cases c)
        exact vs_ret (VD.is (vd_and (vd_eqS (vd_var 0) (vd_var 1)) fun _ => vd_one (vd_eqB (vd_isi T.m_isinstance T.m_str (by decide +kernel) (vd_var 0) (kit_str _)) (vd_isi T.m_isinstance T.m_str (by decide +kernel) (vd_var 1) (kit_str _)))) (by simp))
      | bool x =>
        refine vs_ifB (vb_val (vd_isi2 T.m_isinstance T.m_tuple (by decide +kernel) T.m_list (by decide +kernel) (vd_var 1) (kit_tuple _) (kit_list _))) (fun c => by cases c) (fun _ => vs_nil ?_)
        refine vs_ifB (VW.vt (vwb_or (vb_isN (vd_var 1) vd_non) fun _ => vwb_or1 (vb_val (vd_isi T.m_isinstance T.m_str (by decide +kernel) (vd_var 1) (kit_str _))))) (fun c => by cases c) (fun _ => vs_nil ?_)
        exact vs_ret (VD.is (vd_and (vd_isi T.m_isinstance T.m_int (by decide +kernel) (vd_var 0) (kit_int _)) fun _ => vd_and (vd_eqB (vd_isi T.m_isinstance T.m_bool (by decide +kernel) (vd_var 0) (kit_bool _)) (vd_isi T.m_isinstance T.m_bool (by decide +kernel) (vd_var 1) (kit_bool _))) fun _ => vd_one (vd_eqB (vd_var 0) (vd_var 1))) (by simp [isIntD]))
      | int x =>
        refine vs_ifB (vb_val (vd_isi2 T.m_isinstance T.m_tuple (by decide +kernel) T.m_list (by decide +kernel) (vd_var 1) (kit_tuple _) (kit_list _))) (fun c => by cases c) (fun _ => vs_nil ?_)
        refine vs_ifB (VW.vt (vwb_or (vb_isN (vd_var 1) vd_non) fun _ => vwb_or1 (vb_val (vd_isi T.m_isinstance T.m_str (by decide +kernel) (vd_var 1) (kit_str _))))) (fun c => by cases c) (fun _ => vs_nil ?_)
        exact vs_ret (VD.is (vd_and (vd_isi T.m_isinstance T.m_int (by decide +kernel) (vd_var 0) (kit_int _)) fun _ => vd_and (vd_eqB (vd_isi T.m_isinstance T.m_bool (by decide +kernel) (vd_var 0) (kit_bool _)) (vd_isi T.m_isinstance T.m_bool (by decide +kernel) (vd_var 1) (kit_bool _))) fun _ => vd_one (vd_eqI (vd_var 0) (vd_var 1))) (by simp [isIntD]))
/-! ### _law_two -/
def A_two : List PyData → PyData → Prop := fun ds d => ∃ n : Int, 0 ≤ n ∧ n ≤ 100000 ∧ ds = [.int n] ∧ d = .int (2 ^ n.toNat)
theorem df__law_two (T : Txt w K mg) : Df P w K mg base "_law_two" 1 (spD K A_two) := by
  refine df_of T.a__law_two sc__law_two (fun ds d h => ?_) (fun f cdv A' outer s H E S' ds d hr h => ?_)
  · obtain ⟨n, _, _, rfl, _⟩ := h; rfl
  · obtain ⟨n, h0, h1, rfl, rfl⟩ := h
    refine vs_ret (VD.is (vd_shl vd_int (vd_var 0) ?_) (by rw [Int.one_mul]))
    have e : n = (n.toNat : Int) := by omega
    rw [e]
    exact shl_ok (n := 1) (by decide) (by omega)
/-! ### _law_format -/
def A_format : List PyData → (PyData → Prop) → Prop := fun ds k => ∃ m : Int, 0 ≤ m ∧ m ≤ 20 ∧ ds = [.int m] ∧ k = fun d => ∃ f : Form, f.Ok ∧ (f.e : Int) ≤ m ∧ d = encF f
theorem df__law_format (T : Txt w K mg) : Df P w K mg base "_law_format" 3 (spR K A_format) := by
  refine dr_of T.a__law_format sc__law_format (fun ds k h => ?_) (fun f cdv A' outer s H E F r ds k hr hF h => ?_)
  · obtain ⟨xs, _, _, rfl, _⟩ := h; rfl
  · obtain ⟨m, h0, h1, rfl, rfl⟩ := h
    have nd := sc__law_format.nd
    refine vs_asg 2 (ve_pick 0 hF (df__law_pick T) hr (by decide) <| ve_lst <| va_consD vd_int <| va_consD vd_int <| va_consD vd_int <| va_consD vd_int <| va_cons <| ve_add <| VE.to vd_int <| ve_taken 0 hF (df__law_taken T) hr (by decide) vd_int (by decide) (by decide) fun i h1 h2 => ⟨4, i, rfl, rfl, va_nil ⟨sz_le (by simp), _, rfl, by simp, by simp, fun x hx => ?_⟩⟩) nd
    obtain ⟨p, rfl, p4, p10⟩ : ∃ p : Nat, x = .int p ∧ 4 ≤ p ∧ p ≤ 10 := by
      simp only [List.mem_cons, List.not_mem_nil, or_false] at hx
      rcases hx with rfl | rfl | rfl | rfl | rfl
      · exact ⟨4, rfl, by omega, by omega⟩
      · exact ⟨4, rfl, by omega, by omega⟩
      · exact ⟨5, rfl, by omega, by omega⟩
      · exact ⟨6, rfl, by omega, by omega⟩
      · exact ⟨(4 + i).toNat, congrArg PyData.int (by omega), by omega, by omega⟩
    clear hx h1 h2
    refine vs_asg 3 (ve_pick 0 hF (df__law_pick T) hr (by decide) <| ve_lst <| va_consD vd_int <| va_consD vd_int <| va_consD (vd_sub vd_int vd_int) <| va_consD (vd_sub vd_int (vd_var 2)) <| va_consD (vd_sub vd_int (vd_var 2)) <| va_consD (vd_sub vd_int (vd_var 2)) <|
      va_cons <| ve_sub <| ve_taken 0 hF (df__law_taken T) hr (by decide) vd_int (by decide) (by decide) fun i h1 h2 => VE.to vd_int ⟨i, 40, rfl, rfl, va_nil ⟨sz_le (by simp), _, rfl, by simp, by simp, fun x hx => ?_⟩⟩) nd
    obtain ⟨low, rfl, lo, hi⟩ : ∃ low : Int, x = .int low ∧ -40 ≤ low ∧ low ≤ 9 := by
      simp only [List.mem_cons, List.not_mem_nil, or_false] at hx
      rcases hx with rfl | rfl | rfl | rfl | rfl | rfl | rfl <;> exact ⟨_, rfl, by omega, by omega⟩
    clear hx h1 h2
    refine vs_asg 4 (ve_add <| VE.to (vd_var 3) <| ve_pick 0 hF (df__law_pick T) hr (by decide) <| ve_lst <| va_consD vd_int <| va_consD vd_int <| va_consD vd_int <| va_consD (vd_sub (vd_var 2) vd_int) <| va_consD (vd_var 2) <| va_consD (vd_add (vd_var 2) vd_int) <|
      va_cons <| ve_taken 0 hF (df__law_taken T) hr (by decide) vd_int (by decide) (by decide) fun i h1 h2 => va_nil ⟨sz_le (by simp), _, rfl, by simp, by simp, fun x hx => ?_⟩) nd
    obtain ⟨j, rfl, j0, j1⟩ : ∃ j : Int, x = .int j ∧ 0 ≤ j ∧ j ≤ 20 := by
      simp only [List.mem_cons, List.not_mem_nil, or_false] at hx
      rcases hx with rfl | rfl | rfl | rfl | rfl | rfl | rfl <;> exact ⟨_, rfl, by omega, by omega⟩
    clear hx h1 h2
    refine ⟨low, j, rfl, rfl, ?_⟩
    refine vs_asg 4 (VE.to (vd_min3 rfl T.m_min (vd_var 4) (vd_add (vd_var 3) (vd_var 1)) vd_int) ?_) nd
    refine vs_asg 5 (ve_pick 0 hF (df__law_pick T) hr (by decide) (VE.to (vd_lst (vl_cons vd_str (vl_cons vd_str (vl_cons vd_str (vl_cons vd_str (vl_cons vd_str vl_nil)))))) ⟨_, rfl, by simp, by simp, fun x hx => ?_⟩)) nd
    obtain ⟨mo, rfl⟩ : ∃ mo : Mode, x = .str mo.s := by
      simp only [List.mem_cons, List.not_mem_nil, or_false] at hx
      rcases hx with rfl | rfl | rfl | rfl | rfl
      · exact ⟨.even, rfl⟩
      · exact ⟨.away, rfl⟩
      · exact ⟨.down, rfl⟩
      · exact ⟨.up, rfl⟩
      · exact ⟨.zero, rfl⟩
    clear hx
    refine vs_ret <| ve_tup <| va_consD (vd_var 2) <| va_consD (vd_var 3) <| va_consD (vd_var 4) <| va_consD (vd_var 5) <| va_cons <| ve_pick 0 hF (df__law_pick T) hr (by decide) <| VE.to (vd_lst (vl_cons vd_str (vl_cons vd_str vl_nil))) ⟨_, rfl, by simp, by simp, fun x hx => ?_⟩
    obtain ⟨g, rfl⟩ : ∃ g : Bool, x = .str (tinyS g) := by
      simp only [List.mem_cons, List.not_mem_nil, or_false] at hx
      rcases hx with rfl | rfl
      · exact ⟨true, rfl⟩
      · exact ⟨false, rfl⟩
    clear hx
    refine va_cons (ve_pick 0 hF (df__law_pick T) hr (by decide) (VE.to (vd_lst (vl_cons vd_str (vl_cons vd_str vl_nil))) ⟨_, rfl, by simp, by simp, fun x hx => va_nil ⟨sz_le (by simp), ?_⟩⟩))
    obtain ⟨b, rfl⟩ : ∃ b : Bool, x = .str (hugeS b) := by
      simp only [List.mem_cons, List.not_mem_nil, or_false] at hx
      rcases hx with rfl | rfl
      · exact ⟨true, rfl⟩
      · exact ⟨false, rfl⟩
    refine ⟨⟨p, low, (min (min (low + j) (low + m)) 40 - low).toNat, mo, g, b⟩, ⟨p4, p10, ?_, lo, ?_⟩, ?_, ?_⟩
    · show (min (min (low + j) (low + m)) 40 - low).toNat ≤ 20; omega
    · show low + ((min (min (low + j) (low + m)) 40 - low).toNat : Int) ≤ 40; omega
    · show ((min (min (low + j) (low + m)) 40 - low).toNat : Int) ≤ m; omega
    · have e : low + ((min (min (low + j) (low + m)) 40 - low).toNat : Int) = min (min (low + j) (low + m)) 40 := by omega
      unfold encF
      rw [e]
/-! ### _law_top -/
def A_top : List PyData → PyData → Prop := fun ds d => ∃ f : Form, f.Ok ∧ ds = [encF f] ∧ d = .int (top f)
theorem df__law_top (T : Txt w K mg) : Df P w K mg base "_law_top" 2 (spD K A_top) := by
  refine df_of T.a__law_top sc__law_top (fun ds d h => ?_) (fun f cdv A' outer s H E S' ds d hr h => ?_)
  · obtain ⟨f, _, rfl, _⟩ := h; rfl
  · obtain ⟨f, ok, rfl, rfl⟩ := h
    have p10 := ok.p10
    have e20 := ok.e20
    refine vs_ret (VD.is (vd_mul (vd_sub (vd_call (df__law_two T) hr (by decide) (vl_cons (vd_ixT (vd_var 0) vd_int rfl) vl_nil) ⟨_, ?_, ?_, rfl, rfl⟩) vd_int) (vd_call (df__law_two T) hr (by decide) (vl_cons (vd_sub (vd_ixT (vd_var 0) vd_int rfl) (vd_ixT (vd_var 0) vd_int rfl)) vl_nil) ⟨_, ?_, ?_, rfl, rfl⟩) ?_) ?_)
    · omega
    · omega
    · omega
    · omega
    · refine mulx_ok (a := 20) (b := 30) ?_ ?_ (by decide)
      · have h1 : (2 : Int) ^ (f.p : Int).toNat ≤ 2 ^ 10 := Int.pow_le_pow_right₀ f.p 10 (by omega)
        have h2 := two_pow_pos (f.p : Int).toNat
        omega
      · have h1 : (2 : Int) ^ (f.low + (f.e : Int) - f.low).toNat ≤ 2 ^ 20 := Int.pow_le_pow_right₀ _ 20 (by omega)
        have h2 := two_pow_pos (f.low + (f.e : Int) - f.low).toNat
        omega
    · have e1 : (f.p : Int).toNat = f.p := by omega
      have e2 : (f.low + (f.e : Int) - f.low).toNat = f.e := by omega
      rw [e1, e2]; rfl
/-! ### _law_normal -/
def A_nrm : List PyData → PyData → Prop := fun ds d => ∃ f : Form, f.Ok ∧ ds = [encF f] ∧ d = .int (nrm f)
theorem df__law_normal (T : Txt w K mg) : Df P w K mg base "_law_normal" 2 (spD K A_nrm) := by
  refine df_of T.a__law_normal sc__law_normal (fun ds d h => ?_) (fun f cdv A' outer s H E S' ds d hr h => ?_)
  · obtain ⟨f, _, rfl, _⟩ := h; rfl
  · obtain ⟨f, ok, rfl, rfl⟩ := h
    have p10 := ok.p10
    have p4 := ok.p4
    refine vs_ret (VD.is (vd_call (df__law_two T) hr (by decide) (vl_cons (vd_sub (vd_ixT (vd_var 0) vd_int rfl) vd_int) vl_nil) ⟨_, ?_, ?_, rfl, rfl⟩) ?_)
    · omega
    · omega
    · have e : ((f.p : Int) - 1).toNat = f.p - 1 := by omega
      rw [e]; rfl
/-! ### _law_least -/
def A_least : List PyData → PyData → Prop := fun ds d => ∃ f : Form, f.Ok ∧ ds = [encF f] ∧ d = .int (if f.g = true then 1 else nrm f)
theorem df__law_least (T : Txt w K mg) : Df P w K mg base "_law_least" 3 (spD K A_least) := by
  refine df_of T.a__law_least sc__law_least (fun ds d h => ?_) (fun f cdv A' outer s H E S' ds d hr h => ?_)
  · obtain ⟨f, _, rfl, _⟩ := h; rfl
  · obtain ⟨f, ok, rfl, rfl⟩ := h
    refine vs_ret (VD.is (vd_ite (vb_eqS (vd_ixT (vd_var 0) vd_int rfl) vd_str) (fun _ => vd_int) (fun _ => vd_call (df__law_normal T) hr (by decide) (vl_cons (vd_var 0) vl_nil) ⟨f, ok, rfl, rfl⟩)) ?_)
    rw [dec_tiny]
    cases f.g <;> rfl
/-! ### _law_value -/
def A_value : List PyData → PyData → Prop := fun ds d => ∃ (f : Form) (r : Res), f.Ok ∧ (∀ u, r = .fin u → u.natAbs < 2 ^ 5000) ∧ ds = [encF f, encR r] ∧ d = encV f r
theorem df__law_value (T : Txt w K mg) : Df P w K mg base "_law_value" 1 (spD K A_value) := by
  refine df_of T.a__law_value sc__law_value (fun ds d h => ?_) (fun fa cdv A' outer s H E S' ds d hr h => ?_)
  · obtain ⟨f, u, _, _, rfl, _⟩ := h; rfl
  · obtain ⟨f, r, ok, hb, rfl, rfl⟩ := h
    have nd := sc__law_value.nd
    refine vs_ifB (vb_val (vd_isi T.m_isinstance T.m_str (by decide +kernel) (vd_var 1) (kit_str _))) (fun c => ?_) (fun c => vs_nil ?_)
    · refine vs_ret ((vd_var 1).is ?_)
      cases r
      · cases c
      · rfl
      · rfl
    · obtain ⟨u, rfl⟩ : ∃ u, r = .fin u := by
        cases r
        · exact ⟨_, rfl⟩
        · cases c
        · cases c
      refine vs_ifB (vb_eqI (vd_var 1) vd_int) (fun c0 => ?_) (fun c0 => vs_nil ?_)
      · refine vs_ret ((vd_tup (vl_cons vd_int (vl_cons vd_int vl_nil))).is ?_)
        show _ = valD f u
        unfold valD
        rw [if_pos (of_decide_eq_true c0)]
      have hu : u ≠ 0 := of_decide_eq_false c0
      refine vs_par 2 3 (VA.to (vl_cons (vd_int1 T.m_int (vd_var 1)) (vl_cons (vd_ixT (vd_var 0) vd_int rfl) vl_nil)) ⟨_, _, rfl, ?_⟩) nd
      refine vs_while (fun m δ => ∃ (n : Int) (j : Nat), m = n.natAbs ∧ δ = [some (.dat (encF f)), some (.dat (.int u)), some (.dat (.int n)), some (.dat (.int (f.low + j)))] ∧ n ≠ 0 ∧ u = n * 2 ^ j)
        ⟨_, u, 0, rfl, by simp [List.set, startD, encR], hu, by simp⟩ (fun m δ hI => ?_) PassesOwn.never
      obtain ⟨n, j, rfl, rfl, hn, he⟩ := hI
      refine VT.to (vb_eqI (vd_mod (vd_var 2) vd_int (by decide)) vd_int) ?_
      by_cases hc : n % 2 = 0
      · rw [decide_eq_true hc, if_pos rfl]
        refine vs_par 2 3 (VA.to (vl_cons (vd_fdiv (vd_var 2) vd_int (wide_div (b := 10) (by decide) (by decide) (by decide) (by decide))) (vl_cons (vd_add (vd_var 3) vd_int) vl_nil)) ⟨_, _, rfl, vs_nil ?_⟩) nd
        refine ⟨(n / 2).natAbs, by omega, n / 2, j + 1, rfl, ?_, by omega, ?_⟩
        · have : f.low + (j : Int) + 1 = f.low + ((j + 1 : Nat) : Int) := by omega
          rw [this]; rfl
        · have e : n = n / 2 * 2 := by omega
          rw [Int.pow_succ, Int.mul_comm (2 ^ j) 2, ← Int.mul_assoc, ← e]
          exact he
      · rw [decide_eq_false hc, if_neg Bool.false_ne_true]
        obtain ⟨e1, e2⟩ := tz_unique he (by omega)
        refine vs_ret ((vd_tup (vl_cons (vd_var 2) (vl_cons (vd_var 3) vl_nil))).is ?_)
        show _ = valD f u
        unfold valD
        rw [if_neg hu, e1, e2]
/-! ### _law_around -/
def A_around : List PyData → PyData → Prop := fun ds d => ∃ (f : Form) (a b : Nat), f.Ok ∧ 0 < a ∧ 0 < b ∧ a < 2 ^ 1200 ∧ b < 2 ^ 1200 ∧ ds = [encF f, .int (a : Int), .int (b : Int)] ∧
  d = if a = (nb f (a / b)).1 * b then .list [.int ((nb f (a / b)).1 : Int)] else .list [.int ((nb f (a / b)).1 : Int), .int ((nb f (a / b)).2 : Int)]
theorem df__law_around (T : Txt w K mg) : Df P w K mg base "_law_around" 3 (spD K A_around) := by
  have DT := df__law_two (P := P) (w := w) (base := base) T
  have DN := df__law_normal (P := P) (w := w) (base := base) T
  refine df_of T.a__law_around sc__law_around (fun ds d h => ?_) (fun fa cdv A' outer s H E S' ds d hr h => ?_)
  · obtain ⟨f, a, b, _, _, _, _, _, rfl, _⟩ := h; rfl
  · obtain ⟨f, a, b, ok, ha0, hb0, ha, hb, rfl, rfl⟩ := h
    have nd := sc__law_around.nd
    have p4 := ok.p4
    have p10 := ok.p10
    have cp : ∀ n : Nat, ((2 ^ n : Nat) : Int) = (2 : Int) ^ n := fun n => by simp
    have hdiv : CDivW (a : Int) (b : Int) := wide_div (b := 1200) (by omega) (by simpa using hb) (by decide) (by decide)
    have ew : (a : Int) / (b : Int) = ((a / b : Nat) : Int) := by simp
    have hw : a / b < 2 ^ 1200 := Nat.lt_of_le_of_lt (Nat.div_le_self _ _) ha
    refine vs_par 3 4 (VA.to (vl_cons (VD.is (vd_fdiv (vd_int1 T.m_int (vd_var 1)) (vd_int1 T.m_int (vd_var 2)) hdiv) (congrArg PyData.int ew)) (vl_cons vd_int vl_nil)) ⟨_, _, rfl, ?_⟩) nd
    generalize hv : a / b = v at hw ⊢
    refine vs_ifB (VW.vt (vwb_and (vb_eqS (vd_ixT (vd_var 0) vd_int rfl) vd_str) (fun _ => vwb_and1 (vb_lt (vd_var 3) (vd_call DN hr (by decide) (vl_cons (vd_var 0) vl_nil) ⟨f, ok, rfl, rfl⟩))))) (fun c => ?_) (fun c => vs_nil ?_)
    · rw [nrm_cast, dec_flush] at c
      simp only [Bool.and_eq_true, decide_eq_true_eq, Bool.not_eq_true'] at c
      have e : nb f v = (0, nrmN f) := by unfold nb; rw [if_pos ⟨by omega, c.1⟩]
      refine vs_ret (VD.is (vd_lst (vl_cons vd_int (vl_cons (vd_call DN hr (by decide) (vl_cons (vd_var 0) vl_nil) ⟨f, ok, rfl, rfl⟩) vl_nil))) ?_)
      rw [e, if_neg (by show ¬ a = 0 * b; omega), nrm_cast]
      rfl
    · rw [nrm_cast, dec_flush] at c
      have hnf : ¬ (v < nrmN f ∧ f.g = false) := by
        rintro ⟨h1, h2⟩
        rw [h2, decide_eq_true (show (v : Int) < (nrmN f : Int) by omega)] at c
        cases c
      have hbl := bln_le_of hw
      refine vs_while (fun m δ => ∃ j : Nat, m = bln v - f.p - j ∧ j ≤ bln v - f.p ∧ δ = [some (.dat (encF f)), some (.dat (.int (a : Int))), some (.dat (.int (b : Int))), some (.dat (.int (v : Int))), some (.dat (.int ((2 ^ j : Nat) : Int))), none])
        ⟨_, 0, rfl, by omega, rfl⟩ (fun m δ hI => ?_) PassesOwn.never
      obtain ⟨j, rfl, hj, rfl⟩ := hI
      have hdv : CDivW (v : Int) ((2 ^ j : Nat) : Int) := wide_div (b := 1300) (by have := Nat.two_pow_pos j; omega) (by
        rw [Int.natAbs_natCast]
        exact Nat.pow_lt_pow_right (by decide) (by omega)) (by decide) (by decide)
      have e2 : (2 : Int) ^ (f.p : Int).toNat = ((2 ^ f.p : Nat) : Int) := by rw [Int.toNat_natCast, cp]
      have e3 : (v : Int) / ((2 ^ j : Nat) : Int) = ((v / 2 ^ j : Nat) : Int) := by simp
      refine VT.to (vb_ge (VD.is (vd_fdiv (vd_var 3) (vd_var 4) hdv) (congrArg PyData.int e3)) (vd_call DT hr (by decide) (vl_cons (vd_ixT (vd_var 0) vd_int rfl) vl_nil) ⟨_, by omega, by omega, rfl, rfl⟩)) ?_
      rw [e2]
      by_cases hc : 2 ^ f.p ≤ v / 2 ^ j
      · rw [decide_eq_true (show ((2 ^ f.p : Nat) : Int) ≤ ((v / 2 ^ j : Nat) : Int) by omega), if_pos rfl]
        have h5 : f.p + j + 1 ≤ bln v := by
          have h6 := (Nat.le_div_iff_mul_le (Nat.two_pow_pos j)).mp hc
          rw [← Nat.pow_add] at h6
          exact le_bln h6
        have e4 : ((2 ^ j : Nat) : Int) * 2 = ((2 ^ (j + 1) : Nat) : Int) := by rw [Nat.pow_succ]; simp
        refine vs_asg 4 (VE.to (VD.is (vd_mul (vd_var 4) vd_int (mulx_ok (a := 1300) (b := 2) (by
          rw [Int.natAbs_natCast]
          exact Nat.pow_lt_pow_right (by decide) (by omega)) (by decide) (by decide))) (congrArg PyData.int e4)) (vs_nil ?_)) nd
        exact ⟨_, by omega, j + 1, rfl, by omega, rfl⟩
      · rw [decide_eq_false (show ¬ ((2 ^ f.p : Nat) : Int) ≤ ((v / 2 ^ j : Nat) : Int) by omega), if_neg Bool.false_ne_true]
        have hnb := nb_law hnf hj (by omega)
        have e5 : ((v / 2 ^ j : Nat) : Int) * ((2 ^ j : Nat) : Int) = ((v / 2 ^ j * 2 ^ j : Nat) : Int) := by simp
        have hle : v / 2 ^ j * 2 ^ j ≤ v := Nat.div_mul_le_self _ _
        refine vs_asg 5 (VE.to (VD.is (vd_mul (VD.is (vd_fdiv (vd_var 3) (vd_var 4) hdv) (congrArg PyData.int e3)) (vd_var 4) (mulx_ok (a := 1300) (b := 1300) (by
          rw [Int.natAbs_natCast]
          have := Nat.div_le_self v (2 ^ j)
          exact pow_mono (Nat.lt_of_le_of_lt this hw) (by decide)) (by
          rw [Int.natAbs_natCast]
          exact Nat.pow_lt_pow_right (by decide) (by omega)) (by decide))) (congrArg PyData.int e5)) ?_) nd
        rw [hnb]
        generalize v / 2 ^ j * 2 ^ j = l at hle ⊢
        refine vs_ret (VD.is (vd_ite (vb_eqI (vd_mul (vd_var 5) (vd_var 2) (mulx_ok (a := 1200) (b := 1200) (by rw [Int.natAbs_natCast]; omega) (by rw [Int.natAbs_natCast]; exact hb) (by decide))) (vd_var 1)) (fun _ => vd_lst (vl_cons (vd_var 5) vl_nil)) (fun _ => vd_lst (vl_cons (vd_var 5) (vl_cons (vd_add (vd_var 5) (vd_var 4)) vl_nil)))) ?_)
        have e6 : decide ((l : Int) * (b : Int) = (a : Int)) = decide (a = l * b) := decide_eq_decide.mpr (by rw [← Int.natCast_mul]; omega)
        rw [e6]
        by_cases h : a = l * b
        · rw [decide_eq_true h, if_pos rfl, if_pos h]
        · rw [decide_eq_false h, if_neg Bool.false_ne_true, if_neg h]
          simp
/-! ### _law_choose -/
def A_choose : List PyData → PyData → Prop := fun ds d => ∃ (f : Form) (a b : Nat) (below : Bool), f.Ok ∧ 0 < a ∧ 0 < b ∧ a < 2 ^ 1200 ∧ b < 2 ^ 1200 ∧ ds = [encF f, .int (a : Int), .int (b : Int), .bool below] ∧ d = .int (mag f below a b : Int)
theorem df__law_choose (T : Txt w K mg) : Df P w K mg base "_law_choose" 4 (spD K A_choose) := by
  have DA := df__law_around (P := P) (w := w) (base := base) T
  refine df_of T.a__law_choose sc__law_choose (fun ds d h => ?_) (fun fa cdv A' outer s H E S' ds d hr h => ?_)
  · obtain ⟨f, a, b, _, _, _, _, _, _, rfl, _⟩ := h; rfl
  · obtain ⟨f, a, b, below, ok, ha0, hb0, ha, hb, rfl, rfl⟩ := h
    have nd := sc__law_choose.nd
    have p4 := ok.p4
    have hw : a / b < 2 ^ 1200 := Nat.lt_of_le_of_lt (Nat.div_le_self _ _) ha
    obtain ⟨n1, n2, n3⟩ := nb_le f (by omega) (a / b)
    have n4 := nrmN_le ok
    have n5 := pow600 hw (Nat.le_refl _)
    refine vs_asg 4 (VE.to (vd_call DA hr (by decide) (vl_cons (vd_var 0) (vl_cons (vd_var 1) (vl_cons (vd_var 2) vl_nil))) ⟨f, a, b, ok, ha0, hb0, ha, hb, rfl, rfl⟩) ?_) nd
    unfold mag
    generalize hi : (nb f (a / b)).1 = i at n1 n2 n3
    generalize ho : (nb f (a / b)).2 = o at n2 n3
    by_cases he : a = i * b
    · rw [if_pos he, if_pos he]
      refine vs_ifB (vb_eqI (vd_len T.m_len (vd_var 4) rfl) vd_int) (fun _ => vs_ret (vd_ixL (vd_var 4) vd_int rfl)) (fun c => by simp at c)
    · rw [if_neg he, if_neg he]
      refine vs_ifB (vb_eqI (vd_len T.m_len (vd_var 4) rfl) vd_int) (fun c => by simp at c) (fun _ => vs_nil ?_)
      refine vs_asg 5 (VE.to (vd_ixT (vd_var 0) vd_int rfl) ?_) nd
      refine vs_ifB (VW.vt (vwb_or (vb_eqS (vd_var 5) vd_str) fun _ => vwb_or1 (vb_eqS (vd_var 5) (VD.is (d' := .str (if below = true then ("up" : Str) else ("down" : Str))) (vd_ite (vb_val (vd_var 3)) (fun _ => vd_str) (fun _ => vd_str)) (by cases below <;> rfl))))) (fun c => ?_) (fun c1 => vs_nil ?_)
      · refine vs_ret (VD.is (vd_ixL (vd_var 4) vd_int rfl) ?_)
        rw [cho1 c, if_neg Bool.false_ne_true]
      refine vs_ifB (vb_in (vd_var 5) (vd_lst (vl_cons vd_str (vl_cons vd_str vl_nil))) rfl rfl rfl rfl) (fun c => ?_) (fun c2 => vs_nil ?_)
      · refine vs_ret (VD.is (vd_ixL (vd_var 4) vd_int rfl) ?_)
        rw [cho2 c1 c, if_pos rfl]
      rw [cho3 c1 c2]
      have hib : CMulX (i : Int) (b : Int) := mulx_ok (a := 1200) (b := 1200) (by rw [Int.natAbs_natCast]; omega) (by rw [Int.natAbs_natCast]; exact hb) (by decide)
      have hob : CMulX (o : Int) (b : Int) := mulx_ok (a := 1300) (b := 1200) (by rw [Int.natAbs_natCast]; omega) (by rw [Int.natAbs_natCast]; exact hb) (by decide)
      refine vs_asg 6 (VE.to (vd_sub (vd_sub (vd_var 1) (vd_mul (vd_ixL (vd_var 4) vd_int rfl) (vd_var 2) hib)) (vd_sub (vd_mul (vd_ixL (vd_var 4) vd_int rfl) (vd_var 2) hob) (vd_var 1))) ?_) nd
      have eg : (a : Int) - (i : Int) * b - ((o : Int) * b - a) = 2 * (a : Int) - ((i : Int) + o) * b := by rw [Int.add_mul]; omega
      rw [eg]
      generalize hx : 2 * (a : Int) = x
      generalize hy : ((i : Int) + o) * b = y
      refine vs_ifB (vb_neI (vd_var 6) vd_int) (fun c => ?_) (fun c => vs_nil ?_)
      · have hne : x ≠ y := by
          intro e
          subst e
          simp at c
        refine vs_ret (VD.is (vd_ite (vb_gt (vd_var 6) vd_int) (fun _ => vd_ixL (vd_var 4) vd_int rfl) (fun _ => vd_ixL (vd_var 4) vd_int rfl)) ?_)
        have e : decide (0 < x - y) = decide (y < x) := decide_eq_decide.mpr (by omega)
        rw [if_pos hne, e]
        cases decide (y < x) <;> rfl
      · have hxy : ¬ x ≠ y := by
          simp only [Bool.not_eq_false', decide_eq_true_eq] at c
          omega
        have hdv : CDivW (i : Int) ((o : Int) - (i : Int)) := wide_div (b := 1300) (by omega) (by
          have : ((o : Int) - (i : Int)).natAbs = o - i := by omega
          rw [this]; omega) (by decide) (by decide)
        have eim : (i : Int) / ((o : Int) - (i : Int)) = ((i / (o - i) : Nat) : Int) := by
          have : ((o : Int) - (i : Int)) = ((o - i : Nat) : Int) := by omega
          rw [this]; simp
        refine vs_asg 7 (VE.to (vd_eqI (vd_mod (VD.is (vd_fdiv (vd_int1 T.m_int (vd_ixL (vd_var 4) vd_int rfl)) (vd_int1 T.m_int (vd_sub (vd_ixL (vd_var 4) vd_int rfl) (vd_ixL (vd_var 4) vd_int rfl))) hdv) (congrArg PyData.int eim)) vd_int (by decide)) vd_int) ?_) nd
        refine vs_ret (VD.is (vd_ite (VW.vt (vwb_or (vb_eqS (vd_var 5) vd_str) fun _ => vwb_or1 (vb_val (vd_var 7)))) (fun _ => vd_ixL (vd_var 4) vd_int rfl) (fun _ => vd_ixL (vd_var 4) vd_int rfl)) ?_)
        have e : decide (((i / (o - i) : Nat) : Int) % 2 = 1) = (i / (o - i) % 2 == 1) := by
          by_cases h : i / (o - i) % 2 = 1
          · rw [decide_eq_true (by omega), h]; rfl
          · rw [decide_eq_false (by omega)]; exact (beq_eq_false_iff_ne.mpr h).symm
        rw [if_neg hxy, e]
        cases (decide (f.mode.s = ("away" : Str)) || i / (o - i) % 2 == 1) <;> rfl
/-! ### _law_round -/
def A_round : List PyData → PyData → Prop := fun ds d => ∃ (f : Form) (t : Int) (b : Nat), f.Ok ∧ 0 < b ∧ t.natAbs < 2 ^ 1200 ∧ b < 2 ^ 1200 ∧ ds = [encF f, .int t, .int (b : Int)] ∧ d = encR (rnd f t b)
theorem df__law_round (T : Txt w K mg) : Df P w K mg base "_law_round" 5 (spD K A_round) := by
  have DC := df__law_choose (P := P) (w := w) (base := base) T
  have DT := df__law_top (P := P) (w := w) (base := base) T
  refine df_of T.a__law_round sc__law_round (fun ds d h => ?_) (fun fa cdv A' outer s H E S' ds d hr h => ?_)
  · obtain ⟨f, t, b, _, _, _, _, rfl, _⟩ := h; rfl
  · obtain ⟨f, t, b, ok, hb0, ht, hb, rfl, rfl⟩ := h
    have nd := sc__law_round.nd
    refine vs_ifB (vb_eqI (vd_var 1) vd_int) (fun c => ?_) (fun c => vs_nil ?_)
    · have e : t = 0 := of_decide_eq_true c
      subst e
      rw [rnd_zero]
      exact vs_ret vd_int
    have h0 : t ≠ 0 := of_decide_eq_false c
    refine vs_asg 3 (VE.to (vd_lt (vd_var 1) vd_int) ?_) nd
    refine vs_asg 4 (VE.to (vd_call DC hr (by decide) (vl_cons (vd_var 0) (vl_cons (vd_abs T.m_abs (vd_var 1)) (vl_cons (vd_var 2) (vl_cons (vd_var 3) vl_nil)))) ⟨f, t.natAbs, b, _, ok, by omega, hb0, ht, hb, rfl, rfl⟩) ?_) nd
    unfold rnd
    generalize decide (t < 0) = below
    generalize mag f below t.natAbs b = m
    have ht := top_cast f
    refine vs_ifB (vb_gt (vd_var 4) (vd_call DT hr (by decide) (vl_cons (vd_var 0) vl_nil) ⟨f, ok, rfl, rfl⟩)) (fun c => ?_) (fun c => vs_nil ?_)
    · have c1 : top f < (m : Int) := of_decide_eq_true c
      unfold bnd
      rw [if_pos (by omega)]
      refine vs_ifB (VW.vt (vwb_and (vb_eqS (vd_ixT (vd_var 0) vd_int rfl) vd_str) fun _ => vwb_and (vb_neS (vd_ixT (vd_var 0) vd_int rfl) vd_str) fun _ => vwb_and1 (vb_neS (vd_ixT (vd_var 0) vd_int rfl) (VD.is (d' := .str (if below = true then ("up" : Str) else ("down" : Str))) (vd_ite (vb_val (vd_var 3)) (fun _ => vd_str) (fun _ => vd_str)) (by cases below <;> rfl))))) (fun c => ?_) (fun c => vs_nil ?_)
      · rw [dec_infinite, hold_law] at c
        have hh : hold f below = false := by simpa using c
        refine vs_ret (VD.is (vd_ite (vb_val (vd_var 3)) (fun _ => vd_str) (fun _ => vd_str)) ?_)
        rw [hh, if_neg Bool.false_ne_true]
        cases below <;> rfl
      · rw [dec_infinite, hold_law] at c
        have hh : hold f below = true := by simpa using c
        refine vs_asg 4 (VE.to (vd_call DT hr (by decide) (vl_cons (vd_var 0) vl_nil) ⟨f, ok, rfl, rfl⟩) (vs_nil ?_)) nd
        refine vs_ret (VD.is (vd_ite (vb_val (vd_var 3)) (fun _ => vd_sub vd_int (vd_var 4)) (fun _ => vd_var 4)) ?_)
        rw [hh, if_pos rfl, ht]
        cases below
        · rfl
        · show PyData.int (0 - (topN f : Int)) = .int (-(topN f : Int)); congr 1; omega
    · have c1 : ¬ top f < (m : Int) := of_decide_eq_false c
      unfold bnd
      rw [if_neg (by omega)]
      refine vs_ret (VD.is (vd_ite (vb_val (vd_var 3)) (fun _ => vd_sub vd_int (vd_var 4)) (fun _ => vd_var 4)) ?_)
      cases below
      · rfl
      · show PyData.int (0 - (m : Int)) = .int (-(m : Int)); congr 1; omega
/-! ### _law_times -/
def A_times : List PyData → PyData → Prop := fun ds d => ∃ (f : Form) (t : Int) (b : Nat) (pw : Int), f.Ok ∧ 0 < b ∧ t.natAbs < 2 ^ 600 ∧ b < 2 ^ 600 ∧ -500 ≤ pw ∧ pw ≤ 500 ∧ ds = [encF f, .int t, .int (b : Int), .int pw] ∧ d = encR (rndV f t b pw)
theorem df__law_times (T : Txt w K mg) : Df P w K mg base "_law_times" 6 (spD K A_times) := by
  have DR := df__law_round (P := P) (w := w) (base := base) T
  have DT := df__law_two (P := P) (w := w) (base := base) T
  refine df_of T.a__law_times sc__law_times (fun ds d h => ?_) (fun fa cdv A' outer s H E S' ds d hr h => ?_)
  · obtain ⟨f, t, b, pw, _, _, _, _, _, _, rfl, _⟩ := h; rfl
  · obtain ⟨f, t, b, pw, ok, hb0, ht, hb, hp1, hp2, rfl, rfl⟩ := h
    have cp : ∀ n : Nat, ((2 ^ n : Nat) : Int) = (2 : Int) ^ n := fun n => by simp
    have h500 : ∀ n : Nat, n ≤ 500 → ((2 : Int) ^ n).natAbs < 2 ^ 501 := fun n hn => by
      rw [Int.natAbs_pow]
      exact Nat.pow_lt_pow_right (by decide) (by omega)
    refine vs_ifB (vb_lt (vd_var 3) vd_int) (fun c => ?_) (fun c => vs_nil ?_)
    · have c1 : pw < 0 := of_decide_eq_true c
      have e0 : 0 - pw = -pw := by omega
      refine vs_ret (vd_call DR hr (by decide) (vl_cons (vd_var 0) (vl_cons (vd_var 1) (vl_cons (vd_mul (vd_var 2) (vd_call DT hr (by decide) (vl_cons (vd_sub vd_int (vd_var 3)) vl_nil) ⟨_, by omega, by omega, rfl, rfl⟩) ?_) vl_nil))) ⟨f, t, b * 2 ^ (-pw).toNat, ok, Nat.mul_pos hb0 (Nat.two_pow_pos _), pow_mono ht (by decide), ?_, ?_, ?_⟩)
      · exact mulx_ok (a := 600) (b := 501) (by simpa using hb) (h500 _ (by omega)) (by decide)
      · have h1 : b * 2 ^ (-pw).toNat < 2 ^ 600 * 2 ^ 600 := by
          refine Nat.lt_of_lt_of_le (Nat.mul_lt_mul_of_pos_right hb (Nat.two_pow_pos _)) (Nat.mul_le_mul_left _ (Nat.pow_le_pow_right (by decide) (by omega)))
        rw [← Nat.pow_add] at h1; exact h1
      · rw [e0]; simp
      · unfold rndV; rw [if_pos c1]
    · have c1 : ¬ pw < 0 := of_decide_eq_false c
      refine vs_ret (vd_call DR hr (by decide) (vl_cons (vd_var 0) (vl_cons (vd_mul (vd_var 1) (vd_call DT hr (by decide) (vl_cons (vd_var 3) vl_nil) ⟨_, by omega, by omega, rfl, rfl⟩) ?_) (vl_cons (vd_var 2) vl_nil))) ⟨f, t * 2 ^ pw.toNat, b, ok, hb0, ?_, pow_mono hb (by decide), rfl, ?_⟩)
      · exact mulx_ok (a := 600) (b := 501) ht (h500 _ (by omega)) (by decide)
      · have h1 : (t * 2 ^ pw.toNat).natAbs < 2 ^ 600 * 2 ^ 600 := by
          rw [Int.natAbs_mul, Int.natAbs_pow]
          refine Nat.lt_of_lt_of_le (Nat.mul_lt_mul_of_pos_right ht (Nat.two_pow_pos _)) (Nat.mul_le_mul_left _ (Nat.pow_le_pow_right (by decide) (by omega)))
        rw [← Nat.pow_add] at h1; exact h1
      · unfold rndV; rw [if_neg c1]
/-! ### _law_number -/
def A_number : List PyData → (PyData → Prop) → Prop := fun ds k => ∃ f : Form, f.Ok ∧ ds = [encF f] ∧ k = fun d => ∃ u : Int, isNum f u = true ∧ d = .int u
theorem df__law_number (T : Txt w K mg) : Df P w K mg base "_law_number" 4 (spR K A_number) := by
  have DN := df__law_normal (P := P) (w := w) (base := base) T
  have DT := df__law_two (P := P) (w := w) (base := base) T
  have DL := df__law_least (P := P) (w := w) (base := base) T
  have DO := df__law_top (P := P) (w := w) (base := base) T
  have DP := df__law_pick (P := P) (w := w) (base := base) T
  have DK := df__law_taken (P := P) (w := w) (base := base) T
  refine dr_of T.a__law_number sc__law_number (fun ds k h => ?_) (fun fa cdv A' outer s H E F r ds k hr hF h => ?_)
  · obtain ⟨f, _, rfl, _⟩ := h; rfl
  · obtain ⟨f, ok, rfl, rfl⟩ := h
    have nd := sc__law_number.nd
    have p4 := ok.p4
    have p10 := ok.p10
    have e20 := ok.e20
    have hn0 := nrmN_pos f
    have hn1 := nrmN_le ok
    have hp : 2 ^ f.p = 2 * nrmN f := by unfold nrmN; rw [← Nat.pow_succ']; congr 1; omega
    have hn8 : 8 ≤ nrmN f := Nat.pow_le_pow_right (n := 2) (by decide) (show 3 ≤ f.p - 1 by omega)
    have es : f.low + (f.e : Int) - f.low = (f.e : Int) := by omega
    refine vs_par 2 3 (VA.to (vl_cons (VD.is (vd_call DN hr (by decide) (vl_cons (vd_var 1) vl_nil) ⟨f, ok, rfl, rfl⟩) (congrArg PyData.int (nrm_cast f))) (vl_cons (VD.is (vd_sub (vd_ixT (vd_var 1) vd_int rfl) (vd_ixT (vd_var 1) vd_int rfl)) (congrArg PyData.int es)) vl_nil)) ⟨_, _, rfl, ?_⟩) nd
    generalize hn : nrmN f = n at hn0 hn1 hp hn8
    refine vs_asg 4 (ve_add <| VE.to (vd_var 2) <| ve_pick 0 hF DP hr (by decide) <| ve_lst <| va_consD vd_int <| va_consD vd_int <| va_consD vd_int <| va_consD (vd_sub (vd_var 2) vd_int) <| va_consD (vd_sub (vd_var 2) vd_int) <| va_consD (vd_fdiv (vd_var 2) vd_int (wide_div (b := 10) (by decide) (by decide) (by decide) (by decide))) <|
      va_cons <| ve_taken 0 hF DK hr (by decide) (vd_var 2) (by omega) (by omega) fun i h1 h2 => va_nil ⟨sz_le (by simp), _, rfl, by simp, by simp, fun x hx => ?_⟩) nd
    obtain ⟨m, rfl, m0, m1⟩ : ∃ m : Nat, x = .int ((m : Int) - n) ∧ n ≤ m ∧ m < 2 ^ f.p := by
      simp only [List.mem_cons, List.not_mem_nil, or_false] at hx
      rcases hx with rfl | rfl | rfl | rfl | rfl | rfl | rfl
      · exact ⟨n, congrArg PyData.int (by omega), by omega, by omega⟩
      · exact ⟨n + 1, congrArg PyData.int (by omega), by omega, by omega⟩
      · exact ⟨n + 2, congrArg PyData.int (by omega), by omega, by omega⟩
      · exact ⟨n + (n - 1), congrArg PyData.int (by omega), by omega, by omega⟩
      · exact ⟨n + (n - 2), congrArg PyData.int (by omega), by omega, by omega⟩
      · exact ⟨n + n / 2, congrArg PyData.int (by omega), by omega, by omega⟩
      · exact ⟨n + i.toNat, congrArg PyData.int (by omega), by omega, by omega⟩
    clear hx h1 h2
    refine ⟨n, _, rfl, rfl, ?_⟩
    have em : (n : Int) + ((m : Int) - n) = (m : Int) := by omega
    rw [em]
    have m2 : m < 1024 := by have := Nat.pow_le_pow_right (n := 2) (by decide) p10; omega
    refine vs_asg 5 (ve_mul <| VE.to (vd_var 4) <| ve_call DT hr (by decide) <| va_cons <| ve_pick 0 hF DP hr (by decide) <| ve_lst <| va_consD vd_int <| va_consD (vd_min2 rfl T.m_min vd_int (vd_var 3)) <| va_consD (vd_var 3) <|
      va_cons <| ve_taken 0 hF DK hr (by decide) (vd_add (vd_var 3) vd_int) (by omega) (by omega) fun i h1 h2 => va_nil ⟨sz_le (by simp), _, rfl, by simp, by simp, fun x hx => ?_⟩) nd
    obtain ⟨j, rfl, j1⟩ : ∃ j : Nat, x = .int (j : Int) ∧ j ≤ f.e := by
      simp only [List.mem_cons, List.not_mem_nil, or_false] at hx
      rcases hx with rfl | rfl | rfl | rfl
      · exact ⟨0, rfl, by omega⟩
      · exact ⟨(min 1 (f.e : Int)).toNat, congrArg PyData.int (by omega), by omega⟩
      · exact ⟨f.e, rfl, by omega⟩
      · exact ⟨i.toNat, congrArg PyData.int (by omega), by omega⟩
    clear hx h1 h2
    have ej : (2 : Int) ^ (j : Int).toNat = ((2 ^ j : Nat) : Int) := by rw [Int.toNat_natCast]; simp
    have j2 : 2 ^ j ≤ 2 ^ 20 := Nat.pow_le_pow_right (by decide) (by omega)
    refine va_nil ⟨.int (2 ^ (j : Int).toNat), ⟨_, by omega, by omega, rfl, rfl⟩, m, _, rfl, rfl, ?_, ?_⟩
    · rw [ej]; exact mulx_ok (a := 10) (b := 21) (by simpa using m2) (by rw [Int.natAbs_natCast]; omega) (by decide)
    rw [ej, ← Int.natCast_mul]
    have hu : numN f (m * 2 ^ j) = true := num_scaled ok (by omega) m1 j1
    generalize m * 2 ^ j = u at hu
    clear ej em j1 j2 m2 m0 m1
    -- the end: the sign
    have fin : ∀ (δ : DE) (v : Nat), numN f v = true → δ[0]? = some (some (.raw (.ref r))) → δ[5]? = some (some (.dat (.int (v : Int)))) →
        VS F (cxOf (L2.CX P w) P w K mg base ["row", "form", "n", "span", "m", "units"] "_law_number" (defScope s__law_number) fa cdv A' outer s H E).nox ((defBody s__law_number).drop 4) δ { nx := fun _ => ∃ u : Int, isNum f u = true ∧ PyData.none = .int u, rt := fun d => ∃ u : Int, isNum f u = true ∧ d = .int u } := by
      intro δ v hv h0 h5
      refine vs_ret (ve_if (vt_cmp op_gt (nomark _) (ve_taken 0 hF DK hr (by decide) vd_int (by decide) (by decide) (fun i h1 h2 => VE.to vd_int ⟨decide (0 < i), opd_I0 rfl, ?_⟩) h0)))
      by_cases hi : 0 < i
      · rw [decide_eq_true hi, if_pos rfl]
        exact VE.to (vd_var 5 h5) ⟨v, hv, rfl⟩
      · rw [decide_eq_false hi, if_neg Bool.false_ne_true]
        refine VE.to (vd_sub vd_int (vd_var 5 h5)) ⟨_, ?_, rfl⟩
        show numN f ((0 : Int) - (v : Int)).natAbs = true
        rw [show ((0 : Int) - (v : Int)).natAbs = v by omega]
        exact hv
    refine vs_if (vt_cmp op_eq (nomark _) (ve_taken 0 hF DK hr (by decide) vd_int (by decide) (by decide) fun i h1 h2 => VE.to vd_int ⟨_, opd_eqI, ?_⟩))
    by_cases hi : i = 0
    · rw [decide_eq_true hi, if_pos rfl]
      have el : (if f.g = true then (1 : Int) else nrm f) = ((if f.g = true then 1 else nrmN f : Nat) : Int) := by rw [nrm_cast]; split <;> rfl
      refine vs_asg 5 (ve_pick 0 hF DP hr (by decide) <| ve_lst <| va_consD vd_int <| va_consD (VD.is (vd_call DL hr (by decide) (vl_cons (vd_var 1) vl_nil) ⟨f, ok, rfl, rfl⟩) (congrArg PyData.int el)) <| va_consD (VD.is (vd_call DO hr (by decide) (vl_cons (vd_var 1) vl_nil) ⟨f, ok, rfl, rfl⟩) (congrArg PyData.int (top_cast f))) <|
        va_cons <| ve_if <| VT.to (vb_eqS (vd_ixT (vd_var 1) vd_int rfl) vd_str) ?_) nd
      rw [dec_tiny]
      have done : ∀ (v : Nat) (x : PyData), numN f v = true → x ∈ [PyData.int 0, .int ((if f.g = true then 1 else nrmN f : Nat) : Int), .int (topN f : Int), .int (v : Int)] → ∃ z : Nat, numN f z = true ∧ x = .int (z : Int) := by
        intro v x hv hx
        simp only [List.mem_cons, List.not_mem_nil, or_false] at hx
        rcases hx with rfl | rfl | rfl | rfl
        · exact ⟨0, num_zero f, rfl⟩
        · exact ⟨_, num_least ok, rfl⟩
        · exact ⟨_, num_top ok, rfl⟩
        · exact ⟨v, hv, rfl⟩
      by_cases hg : f.g = true
      · rw [if_pos hg]
        refine ve_add <| VE.to vd_int <| ve_taken 0 hF DK hr (by decide) (vd_sub (vd_var 2) vd_int) (by omega) (by omega) fun q q1 q2 => ⟨1, q, rfl, rfl, va_nil ⟨sz_le (by simp), _, rfl, by simp, by simp, fun x hx => vs_nil ?_⟩⟩
        have eq : (1 : Int) + q = ((1 + q.toNat : Nat) : Int) := by omega
        rw [eq] at hx
        obtain ⟨z, hz, rfl⟩ := done _ x (num_sub hg (by omega)) hx
        exact fin _ z hz rfl rfl
      · rw [if_neg hg]
        refine VE.to (vd_var 2) <| va_nil ⟨sz_le (by simp), _, rfl, by simp, by simp, fun x hx => vs_nil ?_⟩
        obtain ⟨z, hz, rfl⟩ := done n x (by
          have := num_least ok
          rw [if_neg hg, hn] at this
          exact this) hx
        exact fin _ z hz rfl rfl
    · rw [decide_eq_false hi, if_neg Bool.false_ne_true]
      exact vs_nil (fin _ u hu rfl rfl)
/-! ### _law_root -/
def A_lroot : List PyData → PyData → Prop := fun ds d => ∃ (f : Form) (u : Nat), f.Ok ∧ u < 2 ^ 30 ∧ ds = [encF f, .int (u : Int)] ∧ d = encR (rootR f u)
theorem df__law_root (T : Txt w K mg) : Df P w K mg base "_law_root" 6 (spD K A_lroot) := by
  have DT := df__law_two (P := P) (w := w) (base := base) T
  refine df_of T.a__law_root sc__law_root (fun ds d h => ?_) (fun fa cdv A' outer s H E S' ds d hr h => ?_)
  · obtain ⟨f, u, _, _, rfl, _⟩ := h; rfl
  · obtain ⟨f, u, ok, hu, rfl, rfl⟩ := h
    have nd := sc__law_root.nd
    have lo := ok.lo
    have hi := ok.hi
    obtain ⟨a, ha⟩ : ∃ a : Nat, (a : Int) = max 0 (0 - f.low) := ⟨(max 0 (0 - f.low)).toNat, by omega⟩
    obtain ⟨b, hb⟩ : ∃ b : Nat, (b : Int) = max 0 f.low := ⟨(max 0 f.low).toNat, by omega⟩
    have hab : a + b ≤ 40 := by omega
    have two : ∀ (i : Int) (j : Nat), (j : Int) = i → 0 ≤ i → i ≤ 100000 → A_two [.int i] (.int ((2 ^ j : Nat) : Int)) := fun i j e h0 h1 => ⟨i, h0, h1, rfl, by rw [← e, Int.toNat_natCast]; rfl⟩
    have pa : 2 ^ a ≤ 2 ^ 40 := Nat.pow_le_pow_right (by decide) (by omega)
    have pb : 2 ^ b ≤ 2 ^ 40 := Nat.pow_le_pow_right (by decide) (by omega)
    have hua : u * 2 ^ a < 2 ^ 70 := Nat.lt_of_lt_of_le (Nat.mul_lt_mul_of_lt_of_le hu pa (by decide)) (by decide)
    have huab : u * 2 ^ a * 2 ^ b < 2 ^ 110 := Nat.lt_of_lt_of_le (Nat.mul_lt_mul_of_lt_of_le hua pb (by decide)) (by decide)
    have hA : u * 2 ^ a * 2 ^ b * 2 ^ 60 < 2 ^ 170 := Nat.lt_of_lt_of_le (Nat.mul_lt_mul_of_lt_of_le huab (Nat.le_refl (2 ^ 60)) (by decide)) (by decide)
    obtain ⟨A, hAg⟩ : ∃ A, A = u * 2 ^ a * 2 ^ b * 2 ^ 60 := ⟨_, rfl⟩
    refine vs_par 2 3 (VA.to (vl_cons (VD.is (d' := .int ((u * 2 ^ a : Nat) : Int)) (vd_mul (vd_int1 T.m_int (vd_var 1)) (vd_call DT hr (by decide) (vl_cons (vd_max2 rfl T.m_max vd_int (vd_sub vd_int (vd_ixT (vd_var 0) vd_int rfl))) vl_nil) (two _ a ha (by omega) (by omega))) (mulx_ok (a := 40) (b := 60) (by omega) (by rw [Int.natAbs_natCast]; omega) (by decide))) (by rw [Int.natCast_mul])) (vl_cons (vd_call DT hr (by decide) (vl_cons (vd_max2 rfl T.m_max vd_int (vd_ixT (vd_var 0) vd_int rfl)) vl_nil) (two _ b hb (by omega) (by omega))) vl_nil)) ⟨_, _, rfl, ?_⟩) nd
    refine vs_par 2 3 (VA.to (vl_cons (VD.is (d' := .int (A : Int)) (vd_mul (vd_mul (vd_var 2) (vd_var 3) (mulx_ok (a := 80) (b := 60) (by rw [Int.natAbs_natCast]; omega) (by rw [Int.natAbs_natCast]; omega) (by decide))) (vd_call DT hr (by decide) (vl_cons vd_int vl_nil) (two 60 60 rfl (by decide) (by decide))) (mulx_ok (a := 120) (b := 70) (by rw [← Int.natCast_mul, Int.natAbs_natCast]; omega) (by rw [Int.natAbs_natCast]; decide) (by decide))) (by rw [hAg]; simp only [Int.natCast_mul])) (vl_cons (VD.is (d' := .int ((2 ^ b * 2 ^ 30 : Nat) : Int)) (vd_mul (vd_var 3) (vd_call DT hr (by decide) (vl_cons vd_int vl_nil) (two 30 30 rfl (by decide) (by decide))) (mulx_ok (a := 60) (b := 40) (by rw [Int.natAbs_natCast]; omega) (by rw [Int.natAbs_natCast]; decide) (by decide))) (by rw [Int.natCast_mul])) vl_nil)) ⟨_, _, rfl, ?_⟩) nd
    refine vs_par 4 5 (VA.to (vl_cons vd_int (vl_cons (vd_call DT hr (by decide) (vl_cons vd_int vl_nil) (two 100 100 rfl (by decide) (by decide))) vl_nil)) ⟨_, _, rfl, ?_⟩) nd
    have hs : u * 2 ^ (f.low + 82).toNat * (2 ^ (b + 29) * 2 ^ (b + 29)) = u * 2 ^ a * 2 ^ b * 2 ^ 60 * (2 ^ (f.low + 40).toNat * 2 ^ (f.low + 40).toNat) := by
      simp only [Nat.mul_assoc, ← Nat.pow_add]
      congr 2
      omega
    rw [← hAg] at hA hs
    have hB : 2 ^ b * 2 ^ 30 < 2 ^ 80 := by omega
    have h00 : A < (0 + 2 ^ (100 + 1)) * (0 + 2 ^ (100 + 1)) := Nat.lt_of_lt_of_le hA (by decide +kernel)
    refine vs_while (fun m δ => ∃ g st : Nat, m = st ∧ δ = [some (.dat (encF f)), some (.dat (.int (u : Int))), some (.dat (.int (A : Int))), some (.dat (.int ((2 ^ b * 2 ^ 30 : Nat) : Int))), some (.dat (.int (g : Int))), some (.dat (.int (st : Int)))] ∧ g * g ≤ A ∧ ((∃ j, st = 2 ^ j ∧ j ≤ 100 ∧ A < (g + 2 ^ (j + 1)) * (g + 2 ^ (j + 1))) ∨ (st = 0 ∧ A < (g + 1) * (g + 1))))
      ⟨_, 0, 2 ^ 100, rfl, rfl, by omega, .inl ⟨100, rfl, Nat.le_refl _, h00⟩⟩ (fun m δ hI => ?_) PassesOwn.never
    obtain ⟨g, st, rfl, rfl, h1, h2⟩ := hI
    have hg : g < 2 ^ 100 := by
      rcases Nat.lt_or_ge g (2 ^ 100) with z | z
      · exact z
      · have := Nat.mul_le_mul z z
        have e : (2 : Nat) ^ 100 * 2 ^ 100 = 2 ^ 200 := by rw [← Nat.pow_add]
        omega
    refine VT.to (vb_gt (vd_var 5) vd_int) ?_
    rcases h2 with ⟨j, rfl, hj, h2⟩ | ⟨rfl, h2⟩
    · have hj2 : 2 ^ j ≤ 2 ^ 100 := Nat.pow_le_pow_right (by decide) hj
      have hj0 : 0 < 2 ^ j := Nat.two_pow_pos j
      rw [decide_eq_true (by omega), if_pos rfl]
      refine vs_asg 4 (VE.to (VD.is (d' := .int ((if (g + 2 ^ j) * (g + 2 ^ j) ≤ A then g + 2 ^ j else g : Nat) : Int)) (vd_ite (vb_le (vd_mul (vd_add (vd_var 4) (vd_var 5)) (vd_add (vd_var 4) (vd_var 5)) (mulx_ok (a := 110) (b := 110) (by omega) (by omega) (by decide))) (vd_var 2)) (fun _ => vd_add (vd_var 4) (vd_var 5)) (fun _ => vd_var 4)) ?_) ?_) nd
      · by_cases c : (g + 2 ^ j) * (g + 2 ^ j) ≤ A
        · rw [if_pos c, if_pos (by rw [decide_eq_true_eq]; exact_mod_cast c)]; congr 1
        · rw [if_neg c, if_neg (by rw [decide_eq_true_eq]; exact_mod_cast c)]
      · refine vs_asg 5 (VE.to (VD.is (d' := .int ((2 ^ j / 2 : Nat) : Int)) (vd_fdiv (vd_var 5) vd_int (wide_div (b := 110) (by decide) (by omega) (by decide) (by decide))) (by congr 1)) ?_) nd
        refine vs_nil ⟨2 ^ j / 2, by omega, _, _, rfl, rfl, ?_, ?_⟩
        · split
          · assumption
          · exact h1
        · cases j with
          | zero =>
            refine .inr ⟨rfl, ?_⟩
            split
            · rename_i c; exact h2
            · rename_i c; show A < (g + 1) * (g + 1); have : (g + 2 ^ 0) = g + 1 := rfl; rw [this] at c; omega
          | succ j =>
            refine .inl ⟨j, by rw [Nat.pow_succ, Nat.mul_div_cancel _ (by decide)], by omega, ?_⟩
            split
            · rename_i c
              have e : g + 2 ^ (j + 1) + 2 ^ (j + 1) = g + 2 ^ (j + 1 + 1) := by rw [Nat.pow_succ 2 (j + 1)]; omega
              rw [e]; exact h2
            · rename_i c; omega
    · rw [decide_eq_false (by omega), if_neg (by simp)]
      obtain ⟨q1, q2⟩ := Float64.isqrt_spec (u * 2 ^ (f.low + 82).toNat)
      have hR : rootR f u = rnd f ((2 * g + stk A g : Nat) : Int) (4 * 2 ^ (b + 29)) := root_rnd (Nat.two_pow_pos _) (Nat.two_pow_pos _) q1 q2 h1 h2 hs
      have hst : stk A g ≤ 1 := by unfold stk; split <;> omega
      have e4 : 2 * (2 ^ b * 2 ^ 30) = 4 * 2 ^ (b + 29) := by
        rw [Nat.pow_add]; omega
      have hBp : 0 < 2 ^ b * 2 ^ 30 := Nat.mul_pos (Nat.two_pow_pos _) (Nat.two_pow_pos _)
      rw [hR, ← e4]
      refine vs_ret (vd_call (df__law_round T) hr (by decide) (vl_cons (vd_var 0) (vl_cons (VD.is (d' := .int ((2 * g + stk A g : Nat) : Int)) (vd_add (vd_mul vd_int (vd_var 4) (mulx_ok (a := 10) (b := 110) (by decide) (by omega) (by decide))) (vd_intB T.m_int (vd_neI (vd_mul (vd_var 4) (vd_var 4) (mulx_ok (a := 110) (b := 110) (by omega) (by omega) (by decide))) (vd_var 2)))) ?_) (vl_cons (VD.is (d' := .int ((2 * (2 ^ b * 2 ^ 30) : Nat) : Int)) (vd_mul vd_int (vd_var 3) (mulx_ok (a := 10) (b := 90) (by decide) (by rw [Int.natAbs_natCast]; omega) (by decide))) (by rw [Int.natCast_mul 2]; rfl)) vl_nil))) ⟨f, ((2 * g + stk A g : Nat) : Int), 2 * (2 ^ b * 2 ^ 30), ok, by omega, pow_mono (a := 150) (by omega) (by decide), pow_mono (a := 100) (by omega) (by decide), rfl, rfl⟩)
      unfold stk
      by_cases c : g * g = A
      · rw [if_pos c, decide_eq_true (by exact_mod_cast c)]; congr 1
      · rw [if_neg c, decide_eq_false (by exact_mod_cast c)]; congr 1
/-! ### law -/
theorem dpt_enc (f : Form) (r : Res) : dpt 1 (encV f r) := by
  cases r with
  | fin u =>
    show dpt 1 (valD f u)
    unfold valD
    split
    · exact ⟨by show 2 ≤ 1000; decide, fun x hx => by simp only [List.mem_cons, List.not_mem_nil, or_false] at hx; rcases hx with rfl | rfl <;> trivial⟩
    · exact ⟨by show 2 ≤ 1000; decide, fun x hx => by simp only [List.mem_cons, List.not_mem_nil, or_false] at hx; rcases hx with rfl | rfl <;> trivial⟩
  | pinf => trivial
  | ninf => trivial
theorem ok_law (T : Txt w K mg) {f cc tb : Addr} {fd : FuncData} (Fu : Fun K "law" "law" s_law f fd) (hc : fd.code = .ref cc) (TB : LamX.TabB base mg cc tb) : FnOk P w K mg base CX0 30 f fd ["script"] (spLawT K tb) := by
  have DF := df__law_format (P := P) (w := w) (base := base) T
  have DV := df__law_value (P := P) (w := w) (base := base) T
  have DA := df__law_alike (P := P) (w := w) (base := base) T 1
  have DP := df__law_pick (P := P) (w := w) (base := base) T
  have DK := df__law_taken (P := P) (w := w) (base := base) T
  have DN := df__law_number (P := P) (w := w) (base := base) T
  have DR := df__law_round (P := P) (w := w) (base := base) T
  have DT := df__law_times (P := P) (w := w) (base := base) T
  have DQ := df__law_root (P := P) (w := w) (base := base) T
  have D1 := df_add (P := P) (w := w) (base := base) T
  have D2 := df_subtract (P := P) (w := w) (base := base) T
  have D3 := df_multiply (P := P) (w := w) (base := base) T
  have D4 := df_divide (P := P) (w := w) (base := base) T
  have D5 := df_square_root (P := P) (w := w) (base := base) T
  have D6 := df_round_to (P := P) (w := w) (base := base) T
  obtain ⟨CN, CR, er⟩ := T.e_NotMade
  have X4 := dfx_divide (P := P) (w := w) (base := base) T er.a
  have X5 := dfx_square_root (P := P) (w := w) (base := base) T er.a
  refine lawT_of (k := 29) (T := tb) (c₁ := cc) (q := (("law" : Str) ++ ".<locals>.") ++ "<lambda>") Fu sc_law hc (by decide) (by decide) rfl rfl rfl rfl (by first | exact .inl rfl | exact .inr rfl) (fun fa A' outer s H E F r a hr hF hT => ?_) (fun _ => rfl) (fun X h => by rfl)
  have nd := sc_law.nd
  refine vs_for 2 (fun _ δ => ∃ t fo x y oo ot aa bb, δ = [some (.raw (.ref a)), some (.raw (.ref r)), t, fo, x, y, oo, ot, aa, bb])
    (vi_range1 T.m_range (VE.to vd_int ⟨4, rfl, by decide, ⟨_, _, _, _, _, _, _, _, rfl⟩, fun i d δ hd hI => ?_, fun δ hI => ?_⟩)) nd PassesOwn.never
  · obtain ⟨t0, fo0, x0, y0, oo0, ot0, aa0, bb0, rfl⟩ := hI
    refine vs_asg 3 (ve_draw 1 hF DF hr (by decide) (VA.to (vl_cons vd_int vl_nil) ⟨_, ⟨20, by decide, by decide, rfl, rfl⟩, fun d ⟨f, ok, he, hd⟩ => ?_⟩)) nd
    subst hd
    refine vs_par 4 5 (va_cons <| ve_draw 1 hF DN hr (by decide) (VA.to (vl_cons (vd_var 3) vl_nil) ⟨_, ⟨f, ok, rfl, rfl⟩, fun d ⟨u, hu, hd⟩ => ?_⟩)) nd
    subst hd
    refine va_cons <| ve_draw 1 hF DN hr (by decide) (VA.to (vl_cons (vd_var 3) vl_nil) ⟨_, ⟨f, ok, rfl, rfl⟩, fun d ⟨v, hv, hd⟩ => ?_⟩)
    subst hd
    refine va_nil ⟨_, _, rfl, ?_⟩
    have lu := isNum_lt ok hu
    have lv := isNum_lt ok hv
    have lo := ok.lo
    have hi := ok.hi
    have small : ∀ (u : Int), u.natAbs < 2 ^ 30 → ∀ w, Res.fin u = .fin w → w.natAbs < 2 ^ 5000 := fun u h w e => by cases e; exact pow_mono h (by decide)
    refine vs_unp (pn_cons 6 (pn_cons 7 pn_nil nd) nd) (VE.to (vd_tup (vl_cons (vd_call DV hr (by decide) (vl_cons (vd_var 3) (vl_cons (vd_var 4) vl_nil)) ⟨f, .fin u, ok, small u lu, rfl, rfl⟩) (vl_cons (vd_call DV hr (by decide) (vl_cons (vd_var 3) (vl_cons (vd_var 5) vl_nil)) ⟨f, .fin v, ok, small v lv, rfl, rfl⟩) vl_nil))) ⟨_, rfl, rfl, ?_⟩)
    have sm : ∀ (r : Res), (∀ w, r = .fin w → w.natAbs < 2 ^ 1000) → ∀ w, r = .fin w → w.natAbs < 2 ^ 5000 := fun r h w e => pow_mono (h w e) (by decide)
    -- sum, difference, product
    refine vs_ifB (VB.is (d' := false) (vb_not (vb_val (vd_call DA hr (by decide) (vl_cons (vd_call D1 hr (by decide) (vl_cons (vd_var 3) (vl_cons (vd_var 6) (vl_cons (vd_var 7) vl_nil))) ⟨f, u, v, ok, hu, hv, rfl, rfl⟩) (vl_cons (vd_call DV hr (by decide) (vl_cons (vd_var 3) (vl_cons (vd_call DR hr (by decide) (vl_cons (vd_var 3) (vl_cons (vd_add (vd_var 4) (vd_var 5)) (vl_cons vd_int vl_nil))) ⟨f, u + v, 1, ok, by decide, pow_mono (a := 31) (by omega) (by decide), by decide, rfl, rfl⟩) vl_nil)) ⟨f, _, ok, sm _ (rnd_small ok), rfl, rfl⟩) vl_nil)) ⟨_, dpt_enc f _, rfl, rfl⟩))) rfl) (fun c => by cases c) (fun _ => vs_nil ?_)
    refine vs_ifB (VB.is (d' := false) (vb_not (vb_val (vd_call DA hr (by decide) (vl_cons (vd_call D2 hr (by decide) (vl_cons (vd_var 3) (vl_cons (vd_var 6) (vl_cons (vd_var 7) vl_nil))) ⟨f, u, v, ok, hu, hv, rfl, rfl⟩) (vl_cons (vd_call DV hr (by decide) (vl_cons (vd_var 3) (vl_cons (vd_call DR hr (by decide) (vl_cons (vd_var 3) (vl_cons (vd_sub (vd_var 4) (vd_var 5)) (vl_cons vd_int vl_nil))) ⟨f, u - v, 1, ok, by decide, pow_mono (a := 31) (by omega) (by decide), by decide, rfl, rfl⟩) vl_nil)) ⟨f, _, ok, sm _ (rnd_small ok), rfl, rfl⟩) vl_nil)) ⟨_, dpt_enc f _, rfl, rfl⟩))) rfl) (fun c => by cases c) (fun _ => vs_nil ?_)
    have muv : (u * v).natAbs < 2 ^ 60 := by
      rw [Int.natAbs_mul]
      exact Nat.lt_of_lt_of_le (Nat.mul_lt_mul'' lu lv) (by decide)
    refine vs_ifB (VB.is (d' := false) (vb_not (vb_val (vd_call DA hr (by decide) (vl_cons (vd_call D3 hr (by decide) (vl_cons (vd_var 3) (vl_cons (vd_var 6) (vl_cons (vd_var 7) vl_nil))) ⟨f, u, v, ok, hu, hv, rfl, rfl⟩) (vl_cons (vd_call DV hr (by decide) (vl_cons (vd_var 3) (vl_cons (vd_call DT hr (by decide) (vl_cons (vd_var 3) (vl_cons (vd_mul (vd_var 4) (vd_var 5) ?_) (vl_cons vd_int (vl_cons (vd_ixT (vd_var 3) vd_int rfl) vl_nil)))) ⟨f, u * v, 1, f.low, ok, by decide, pow_mono muv (by decide), by decide, by omega, by omega, rfl, rfl⟩) vl_nil)) ⟨f, _, ok, sm _ (rndV_small ok), rfl, rfl⟩) vl_nil)) ⟨_, dpt_enc f _, rfl, rfl⟩))) rfl) (fun c => by cases c) (fun _ => vs_nil ?_)
    · exact mulx_ok (a := 30) (b := 30) lu lv (by decide)
    -- the quotient
    refine vs_ifJ (fun δ => δ = [some (.raw (.ref a)), some (.raw (.ref r)), some (.dat d), some (.dat (encF f)), some (.dat (.int u)), some (.dat (.int v)), some (.dat (valD f u)), some (.dat (valD f v)), aa0, bb0]) (VT.to (vb_eqI (vd_var 5) vd_int) ?_) (fun δ hI => ?_)
    · by_cases h0 : v = 0
      · rw [decide_eq_true h0, if_pos rfl]
        subst h0
        refine vs_ifB (VB.is (d' := false) (vb_not (vb_val (vd_nm (sc := defScope s_law) [3, 6, 7] hT TB rfl hr (by decide) rfl (by decide +kernel) er T.a__law_not_made sc__law_not_made T.m_isinstance X4 ⟨f, u, ok, hu, rfl⟩ ⟨rfl, rfl, rfl, trivial⟩ (fun A outer s H E f' c' => pa_cons (pe_var (i := 3) rfl (.inr (.inr rfl))) (pa_cons (pe_var (i := 6) rfl (.inr (.inr rfl))) (pa_cons (pe_var (i := 7) rfl (.inr (.inr rfl))) pa_nil))) rfl))) rfl) (fun c => by cases c) (fun _ => vs_nil ?_)
        exact vs_nil rfl
      · rw [decide_eq_false h0, if_neg Bool.false_ne_true]
        refine vs_ifB (VB.is (d' := false) (vb_not (vb_val (vd_call DA hr (by decide) (vl_cons (vd_call D4 hr (by decide) (vl_cons (vd_var 3) (vl_cons (vd_var 6) (vl_cons (vd_var 7) vl_nil))) ⟨f, u, v, ok, hu, hv, h0, rfl, rfl⟩) (vl_cons (vd_call DV hr (by decide) (vl_cons (vd_var 3) (vl_cons (vd_call DT hr (by decide) (vl_cons (vd_var 3) (vl_cons (VD.is (d' := .int ((if 0 < v then 1 else -1) * u)) (vd_ite (vb_gt (vd_var 5) vd_int) (fun _ => vd_var 4) (fun _ => vd_sub vd_int (vd_var 4))) ?_) (vl_cons (vd_abs T.m_abs (vd_var 5)) (vl_cons (vd_sub vd_int (vd_ixT (vd_var 3) vd_int rfl)) vl_nil)))) ⟨f, (if 0 < v then 1 else -1) * u, v.natAbs, -f.low, ok, by omega, ?_, pow_mono lv (by decide), by omega, by omega, ?_, rfl⟩) vl_nil)) ⟨f, _, ok, sm _ (rndV_small ok), rfl, rfl⟩) vl_nil)) ⟨_, dpt_enc f _, rfl, rfl⟩))) rfl) (fun c => by cases c) (fun _ => vs_nil ?_)
        · by_cases c : 0 < v
          · rw [if_pos (decide_eq_true c), if_pos c, Int.one_mul]
          · rw [if_neg (by simpa using c), if_neg c, Int.neg_mul, Int.one_mul, Int.zero_sub]
        · have : ((if 0 < v then (1 : Int) else -1) * u).natAbs = u.natAbs := by split <;> simp
          rw [this]
          exact pow_mono lu (by decide)
        · rw [Int.zero_sub]
        · exact vs_nil rfl
    subst hI
    -- the root
    have na : isNum f (u.natAbs : Int) = true := by
      unfold isNum at hu ⊢
      rw [Int.natAbs_natCast]; exact hu
    refine vs_ifB (t := false) (VW.vt (VW.mono (k := fun b => b = false) (vw_and (VT.to (vb_lt (vd_var 4) vd_int) ?_)) fun _ h => h)) (fun c => by cases c) (fun _ => vs_nil ?_)
    · by_cases h0 : u < 0
      · rw [decide_eq_true h0, if_pos rfl]
        exact vw_and1 (VB.is (vb_not (vb_val (vd_nm (sc := defScope s_law) [3, 6] hT TB rfl hr (by decide) rfl (by decide +kernel) er T.a__law_not_made sc__law_not_made T.m_isinstance X5 ⟨f, u, ok, hu, h0, rfl⟩ ⟨rfl, rfl, trivial⟩ (fun A outer s H E f' c' => pa_cons (pe_var (i := 3) rfl (.inr (.inr rfl))) (pa_cons (pe_var (i := 6) rfl (.inr (.inr rfl))) pa_nil))))) rfl)
      · rw [decide_eq_false h0, if_neg Bool.false_ne_true]
    refine vs_ifB (VB.is (d' := false) (vb_not (vb_val (vd_call DA hr (by decide) (vl_cons (vd_call D5 hr (by decide) (vl_cons (vd_var 3) (vl_cons (vd_call DV hr (by decide) (vl_cons (vd_var 3) (vl_cons (vd_abs T.m_abs (vd_var 4)) vl_nil)) ⟨f, .fin (u.natAbs : Int), ok, small _ (by omega), rfl, rfl⟩) vl_nil)) ⟨f, u.natAbs, ok, na, rfl, rfl⟩) (vl_cons (vd_call DV hr (by decide) (vl_cons (vd_var 3) (vl_cons (vd_call DQ hr (by decide) (vl_cons (vd_var 3) (vl_cons (vd_abs T.m_abs (vd_var 4)) vl_nil)) ⟨f, u.natAbs, ok, lu, rfl, rfl⟩) vl_nil)) ⟨f, _, ok, sm _ (rnd_small ok), rfl, rfl⟩) vl_nil)) ⟨_, dpt_enc f _, rfl, rfl⟩))) rfl) (fun c => by cases c) (fun _ => vs_nil ?_)
    -- a fraction
    refine vs_par 8 9 (va_cons <| ve_pick 1 hF DP hr (by decide) <| ve_lst <| va_consD (vd_var 4) <| va_consD (vd_add (vd_mul vd_int (vd_var 4) (mulx_ok (a := 2) (b := 30) (by decide) lu (by decide))) vd_int) <| va_consD (vd_sub (vd_mul vd_int (vd_var 4) (mulx_ok (a := 3) (b := 30) (by decide) lu (by decide))) vd_int) <|
      va_cons <| ve_sub <| ve_taken 1 hF DK hr (by decide) vd_int (by decide) (by decide) fun t h1 h2 => VE.to vd_int ⟨t, 500, rfl, rfl, va_consD (vd_pow vd_int vd_int ⟨by decide, by decide, by decide⟩) <| va_nil ⟨sz_le (by simp), _, rfl, by simp, by simp, fun z hz => ?_⟩⟩) nd
    obtain ⟨z', rfl, hz'⟩ : ∃ z' : Int, z = .int z' ∧ z'.natAbs ≤ 10 ^ 60 := by
      have big : (2 : Nat) ^ 40 ≤ 10 ^ 60 := by decide
      simp only [List.mem_cons, List.not_mem_nil, or_false] at hz
      rcases hz with rfl | rfl | rfl | rfl | rfl
      · exact ⟨_, rfl, by omega⟩
      · exact ⟨_, rfl, by omega⟩
      · exact ⟨_, rfl, by omega⟩
      · exact ⟨_, rfl, by omega⟩
      · exact ⟨_, rfl, by decide⟩
    clear hz h1 h2
    refine va_cons <| ve_add <| VE.to vd_int <| ve_pick 1 hF DP hr (by decide) <| ve_lst <| va_consD vd_int <| va_consD vd_int <| va_consD vd_int <| va_cons <| ve_taken 1 hF DK hr (by decide) vd_int (by decide) (by decide) fun t h1 h2 => va_consD (vd_sub (vd_pow vd_int vd_int ⟨by decide, by decide, by decide⟩) vd_int) <| va_nil ⟨sz_le (by simp), _, rfl, by simp, by simp, fun z hz => ?_⟩
    obtain ⟨b, rfl, hb⟩ : ∃ b : Nat, z = .int ((b : Int) - 1) ∧ 0 < b ∧ b ≤ 10 ^ 60 := by
      have big : (2 : Nat) ^ 40 ≤ 10 ^ 60 := by decide
      simp only [List.mem_cons, List.not_mem_nil, or_false] at hz
      rcases hz with rfl | rfl | rfl | rfl | rfl
      · exact ⟨1, rfl, by decide, by decide⟩
      · exact ⟨2, rfl, by decide, by decide⟩
      · exact ⟨4, rfl, by decide, by decide⟩
      · exact ⟨(t + 1).toNat, congrArg PyData.int (by omega), by omega, by omega⟩
      · exact ⟨10 ^ 60, congrArg PyData.int (by decide), by decide, by decide⟩
    clear hz h1 h2
    refine ⟨1, _, rfl, rfl, va_nil ⟨_, _, rfl, ?_⟩⟩
    rw [show (1 : Int) + ((b : Int) - 1) = (b : Int) by omega]
    have b200 : (10 : Nat) ^ 60 < 2 ^ 200 := by decide
    refine vs_ifB (VB.is (d' := false) (vb_not (vb_val (vd_call DA hr (by decide) (vl_cons (vd_call D6 hr (by decide) (vl_cons (vd_var 3) (vl_cons (vd_var 8) (vl_cons (vd_var 9) vl_nil))) ⟨f, z', b, ok, hz', hb.1, hb.2, rfl, rfl⟩) (vl_cons (vd_call DV hr (by decide) (vl_cons (vd_var 3) (vl_cons (vd_call DT hr (by decide) (vl_cons (vd_var 3) (vl_cons (vd_var 8) (vl_cons (vd_var 9) (vl_cons (vd_sub vd_int (vd_ixT (vd_var 3) vd_int rfl)) vl_nil)))) ⟨f, z', b, 0 - f.low, ok, hb.1, pow_mono (a := 200) (by omega) (by decide), pow_mono (a := 200) (by omega) (by decide), by omega, by omega, rfl, rfl⟩) vl_nil)) ⟨f, _, ok, sm _ (rndV_small ok), rfl, rfl⟩) vl_nil)) ⟨_, dpt_enc f _, rfl, rfl⟩))) rfl) (fun c => by cases c) (fun _ => vs_nil (vs_nil ⟨_, _, _, _, _, _, _, _, rfl⟩))
  · exact vs_ret vd_bl
end
end T
namespace T
open PySem PySem.Spec PyProof.Rows L2 Dl Fx
theorem all_mk {l : PySem.W.OpenLaw} {w : World} {K : PySem.W.Frag} {h : Heap} {mg : Str → Option Value} {fa f1 cc tb : Addr} (X : K.In h) (G : h.Ns mainGlobals mg) (hfa : mg "law" = some (.ref fa)) (T : Txt w K mg) {od an : Option Addr} {sl : Array (Option Value)} {oc kV dc pm cd ct : Value}
    (a : PySem.W.nsIn K mainGlobals "law" = some (some (.ref f1))) (lk : K.lookup f1 = some ⟨oc, od, .func (PySem.W.fnOf "law" "law" (defArgs s_law) (defBody s_law) (defScope s_law) .none kV dc pm an cd ct), sl⟩) (c : PySem.W.codeIn K cd "law" = true) (k : PySem.W.keepIn K (.ref f1) = true) (z : cd = .ref cc) :
    ∃ fd : FuncData, (∀ (s : Shared) (v : Value), BindsTo s fd ⟨[v], []⟩ [("script", v)]) ∧ ∀ base : Heap, K.In base → base.Ns mainGlobals mg → LamX.TabB base mg cc tb → FnOk l.prog w K mg base CX0 30 fa fd ["script"] (Dl.spLawT K tb) := by
  have e := hfa.symm.trans (PySem.W.mg_of X G a)
  cases e
  exact ⟨_, fun s v => .of_eq rfl, fun base _ _ tb => ok_law T (fun_mk (st := s_law) lk c k) z tb⟩
end T
open PySem PySem.W PyProof.Rows
set_option maxRecDepth 100000 in
set_option maxHeartbeats 0 in
theorem PySem.Challenge.cw_rulesheld_k03_whole_operations_holds : PySem.Challenge.rw_rulesheld_k03_whole_operations.Holds := by
  w_on; o_law; k_head; (case hw => w_witness2)
  k_fill
  refine' Dl.walk_own (l := PySem.Challenge.rw_rulesheld_k03_whole_operations) (n := 63) (k := 30) rfl (by decide) rfl ⟨rfl, by decide, by decide⟩ (fun w h Y => PySem.W.km_in_of Y) rfl ?ht ?nT ?F; (case ht => (intro w; refine' Dl.tabIn_of ?h1 ?h2 ?h3 ?h4 ?h5; (case h1 => k_is); (case h2 => k_is); (case h3 => rfl); (case h4 => k_is); (case h5 => rfl))); (case nT => (intro w; rfl))
  case F =>
    intro w mg fa h KX G hmg
    refine' T.all_mk KX G hmg ?tx ?A0 ?L0 ?C0 ?K0 ?Z0
    case tx =>
      refine' ⟨?a_to_units, ?a_from_units, ?a_is_infinite, ?a_normal_units, ?a_largest_units, ?a_are_number, ?a_round_value, ?a_round_units, ?a__neighbours, ?a__goes_outward, ?a__bounded, ?a_is_within, ?a_is_format, ?a_is_dyadic, ?a_require_format, ?a_require_number, ?a_has_number, ?a__stands_for_number, ?a_round_to, ?a_add, ?a_subtract, ?a_multiply, ?a_divide, ?a_square_root, ?a__require_operands, ?a__law_taken, ?a__law_pick, ?a__law_alike, ?a__law_two, ?a__law_format, ?a__law_top, ?a__law_normal, ?a__law_least, ?a__law_value, ?a__law_around, ?a__law_choose, ?a__law_round, ?a__law_times, ?a__law_number, ?a__law_not_made, ?a__law_root, ?a_law, ?e_BadFormat, ?e_BadNumber, ?e_BadFraction, ?e_NotMade, ?m_ValueError, ?m_abs, ?m_bool, ?m_int, ?m_isinstance, ?m_len, ?m_list, ?m_max, ?m_min, ?m_range, ?m_str, ?m_tuple, ?i_isqrt, ?c_MODES, ?c_TINY_WAYS, ?c_HUGE_WAYS, ?c_LEAST_PRECISION, ?c_GREATEST_PRECISION, ?c_GREATEST_EXPONENT, ?c_GREATEST_SPAN, ?c_GREATEST_FACTOR, ?c_GREATEST_POWER, ?c_GREATEST_PART, ?c_ROOT_PLACES⟩
      case a_to_units => (refine' Dl.at_mk KX G ?a ?l ?c ?k (fun _ _ _ _ _ _ us hl => match us, hl with | [_, _], _ => rfl)); (case a => k_is); (case l => k_is); (case c => k_is); (case k => k_is)
      case a_from_units => (refine' Dl.at_mk KX G ?a ?l ?c ?k (fun _ _ _ _ _ _ us hl => match us, hl with | [_, _], _ => rfl)); (case a => k_is); (case l => k_is); (case c => k_is); (case k => k_is)
      case a_is_infinite => (refine' Dl.at_mk KX G ?a ?l ?c ?k (fun _ _ _ _ _ _ us hl => match us, hl with | [_], _ => rfl)); (case a => k_is); (case l => k_is); (case c => k_is); (case k => k_is)
      case a_normal_units => (refine' Dl.at_mk KX G ?a ?l ?c ?k (fun _ _ _ _ _ _ us hl => match us, hl with | [_], _ => rfl)); (case a => k_is); (case l => k_is); (case c => k_is); (case k => k_is)
      case a_largest_units => (refine' Dl.at_mk KX G ?a ?l ?c ?k (fun _ _ _ _ _ _ us hl => match us, hl with | [_], _ => rfl)); (case a => k_is); (case l => k_is); (case c => k_is); (case k => k_is)
      case a_are_number => (refine' Dl.at_mk KX G ?a ?l ?c ?k (fun _ _ _ _ _ _ us hl => match us, hl with | [_, _], _ => rfl)); (case a => k_is); (case l => k_is); (case c => k_is); (case k => k_is)
      case a_round_value => (refine' Dl.at_mk KX G ?a ?l ?c ?k (fun _ _ _ _ _ _ us hl => match us, hl with | [_, _, _, _], _ => rfl)); (case a => k_is); (case l => k_is); (case c => k_is); (case k => k_is)
      case a_round_units => (refine' Dl.at_mk KX G ?a ?l ?c ?k (fun _ _ _ _ _ _ us hl => match us, hl with | [_, _, _], _ => rfl)); (case a => k_is); (case l => k_is); (case c => k_is); (case k => k_is)
      case a__neighbours => (refine' Dl.at_mk KX G ?a ?l ?c ?k (fun _ _ _ _ _ _ us hl => match us, hl with | [_, _], _ => rfl)); (case a => k_is); (case l => k_is); (case c => k_is); (case k => k_is)
      case a__goes_outward => (refine' Dl.at_mk KX G ?a ?l ?c ?k (fun _ _ _ _ _ _ us hl => match us, hl with | [_, _, _, _], _ => rfl)); (case a => k_is); (case l => k_is); (case c => k_is); (case k => k_is)
      case a__bounded => (refine' Dl.at_mk KX G ?a ?l ?c ?k (fun _ _ _ _ _ _ us hl => match us, hl with | [_, _], _ => rfl)); (case a => k_is); (case l => k_is); (case c => k_is); (case k => k_is)
      case a_is_within => (refine' Dl.at_mk KX G ?a ?l ?c ?k (fun _ _ _ _ _ _ us hl => match us, hl with | [_, _, _], _ => rfl)); (case a => k_is); (case l => k_is); (case c => k_is); (case k => k_is)
      case a_is_format => (refine' Dl.at_mk KX G ?a ?l ?c ?k (fun _ _ _ _ _ _ us hl => match us, hl with | [_], _ => rfl)); (case a => k_is); (case l => k_is); (case c => k_is); (case k => k_is)
      case a_is_dyadic => (refine' Dl.at_mk KX G ?a ?l ?c ?k (fun _ _ _ _ _ _ us hl => match us, hl with | [_], _ => rfl)); (case a => k_is); (case l => k_is); (case c => k_is); (case k => k_is)
      case a_require_format => (refine' Dl.at_mk KX G ?a ?l ?c ?k (fun _ _ _ _ _ _ us hl => match us, hl with | [_], _ => rfl)); (case a => k_is); (case l => k_is); (case c => k_is); (case k => k_is)
      case a_require_number => (refine' Dl.at_mk KX G ?a ?l ?c ?k (fun _ _ _ _ _ _ us hl => match us, hl with | [_, _], _ => rfl)); (case a => k_is); (case l => k_is); (case c => k_is); (case k => k_is)
      case a_has_number => (refine' Dl.at_mk KX G ?a ?l ?c ?k (fun _ _ _ _ _ _ us hl => match us, hl with | [_, _], _ => rfl)); (case a => k_is); (case l => k_is); (case c => k_is); (case k => k_is)
      case a__stands_for_number => (refine' Dl.at_mk KX G ?a ?l ?c ?k (fun _ _ _ _ _ _ us hl => match us, hl with | [_, _], _ => rfl)); (case a => k_is); (case l => k_is); (case c => k_is); (case k => k_is)
      case a_round_to => (refine' Dl.at_mk KX G ?a ?l ?c ?k (fun _ _ _ _ _ _ us hl => match us, hl with | [_, _, _], _ => rfl)); (case a => k_is); (case l => k_is); (case c => k_is); (case k => k_is)
      case a_add => (refine' Dl.at_mk KX G ?a ?l ?c ?k (fun _ _ _ _ _ _ us hl => match us, hl with | [_, _, _], _ => rfl)); (case a => k_is); (case l => k_is); (case c => k_is); (case k => k_is)
      case a_subtract => (refine' Dl.at_mk KX G ?a ?l ?c ?k (fun _ _ _ _ _ _ us hl => match us, hl with | [_, _, _], _ => rfl)); (case a => k_is); (case l => k_is); (case c => k_is); (case k => k_is)
      case a_multiply => (refine' Dl.at_mk KX G ?a ?l ?c ?k (fun _ _ _ _ _ _ us hl => match us, hl with | [_, _, _], _ => rfl)); (case a => k_is); (case l => k_is); (case c => k_is); (case k => k_is)
      case a_divide => (refine' Dl.at_mk KX G ?a ?l ?c ?k (fun _ _ _ _ _ _ us hl => match us, hl with | [_, _, _], _ => rfl)); (case a => k_is); (case l => k_is); (case c => k_is); (case k => k_is)
      case a_square_root => (refine' Dl.at_mk KX G ?a ?l ?c ?k (fun _ _ _ _ _ _ us hl => match us, hl with | [_, _], _ => rfl)); (case a => k_is); (case l => k_is); (case c => k_is); (case k => k_is)
      case a__require_operands => (refine' Dl.at_mk KX G ?a ?l ?c ?k (fun _ _ _ _ _ _ us hl => match us, hl with | [_, _, _], _ => rfl)); (case a => k_is); (case l => k_is); (case c => k_is); (case k => k_is)
      case a__law_taken => (refine' Dl.at_mk KX G ?a ?l ?c ?k (fun _ _ _ _ _ _ us hl => match us, hl with | [_, _], _ => rfl)); (case a => k_is); (case l => k_is); (case c => k_is); (case k => k_is)
      case a__law_pick => (refine' Dl.at_mk KX G ?a ?l ?c ?k (fun _ _ _ _ _ _ us hl => match us, hl with | [_, _], _ => rfl)); (case a => k_is); (case l => k_is); (case c => k_is); (case k => k_is)
      case a__law_alike => (refine' Dl.at_mk KX G ?a ?l ?c ?k (fun _ _ _ _ _ _ us hl => match us, hl with | [_, _], _ => rfl)); (case a => k_is); (case l => k_is); (case c => k_is); (case k => k_is)
      case a__law_two => (refine' Dl.at_mk KX G ?a ?l ?c ?k (fun _ _ _ _ _ _ us hl => match us, hl with | [_], _ => rfl)); (case a => k_is); (case l => k_is); (case c => k_is); (case k => k_is)
      case a__law_format => (refine' Dl.at_mk KX G ?a ?l ?c ?k (fun _ _ _ _ _ _ us hl => match us, hl with | [_, _], _ => rfl)); (case a => k_is); (case l => k_is); (case c => k_is); (case k => k_is)
      case a__law_top => (refine' Dl.at_mk KX G ?a ?l ?c ?k (fun _ _ _ _ _ _ us hl => match us, hl with | [_], _ => rfl)); (case a => k_is); (case l => k_is); (case c => k_is); (case k => k_is)
      case a__law_normal => (refine' Dl.at_mk KX G ?a ?l ?c ?k (fun _ _ _ _ _ _ us hl => match us, hl with | [_], _ => rfl)); (case a => k_is); (case l => k_is); (case c => k_is); (case k => k_is)
      case a__law_least => (refine' Dl.at_mk KX G ?a ?l ?c ?k (fun _ _ _ _ _ _ us hl => match us, hl with | [_], _ => rfl)); (case a => k_is); (case l => k_is); (case c => k_is); (case k => k_is)
      case a__law_value => (refine' Dl.at_mk KX G ?a ?l ?c ?k (fun _ _ _ _ _ _ us hl => match us, hl with | [_, _], _ => rfl)); (case a => k_is); (case l => k_is); (case c => k_is); (case k => k_is)
      case a__law_around => (refine' Dl.at_mk KX G ?a ?l ?c ?k (fun _ _ _ _ _ _ us hl => match us, hl with | [_, _, _], _ => rfl)); (case a => k_is); (case l => k_is); (case c => k_is); (case k => k_is)
      case a__law_choose => (refine' Dl.at_mk KX G ?a ?l ?c ?k (fun _ _ _ _ _ _ us hl => match us, hl with | [_, _, _, _], _ => rfl)); (case a => k_is); (case l => k_is); (case c => k_is); (case k => k_is)
      case a__law_round => (refine' Dl.at_mk KX G ?a ?l ?c ?k (fun _ _ _ _ _ _ us hl => match us, hl with | [_, _, _], _ => rfl)); (case a => k_is); (case l => k_is); (case c => k_is); (case k => k_is)
      case a__law_times => (refine' Dl.at_mk KX G ?a ?l ?c ?k (fun _ _ _ _ _ _ us hl => match us, hl with | [_, _, _, _], _ => rfl)); (case a => k_is); (case l => k_is); (case c => k_is); (case k => k_is)
      case a__law_number => (refine' Dl.at_mk KX G ?a ?l ?c ?k (fun _ _ _ _ _ _ us hl => match us, hl with | [_, _], _ => rfl)); (case a => k_is); (case l => k_is); (case c => k_is); (case k => k_is)
      case a__law_not_made => (refine' Dl.at_mk KX G ?a ?l ?c ?k (fun _ _ _ _ _ _ us hl => match us, hl with | [_], _ => rfl)); (case a => k_is); (case l => k_is); (case c => k_is); (case k => k_is)
      case a__law_root => (refine' Dl.at_mk KX G ?a ?l ?c ?k (fun _ _ _ _ _ _ us hl => match us, hl with | [_, _], _ => rfl)); (case a => k_is); (case l => k_is); (case c => k_is); (case k => k_is)
      case a_law => (refine' Dl.at_mk KX G ?a ?l ?c ?k (fun _ _ _ _ _ _ us hl => match us, hl with | [_], _ => rfl)); (case a => k_is); (case l => k_is); (case c => k_is); (case k => k_is)
      case e_BadFormat => (refine' ⟨_, _, Dl.err2_of ⟨PySem.W.mg_of KX G ?g, ?xP, ?kP, ?bP, ?tP, ?iP⟩ (PySem.W.mg_of KX G ?g2) ?b1 ?t1 ?i1 ?s1 ⟨?h1, ?h2, ?h3, ?h4, ?h5, ?h6, ?h7, ?h8⟩⟩; (case g => k_is); (case g2 => k_is); (case xP => k_exc); (case kP => k_is); (case bP => k_is); (case tP => k_is); (case iP => k_is); (case b1 => k_is); (case t1 => k_is); (case i1 => k_is); (case s1 => k_is); (case h1 => k_is); (case h2 => k_is); (case h3 => k_is); (case h4 => k_is); (case h5 => k_is); (case h6 => k_is); (case h7 => k_is); (case h8 => k_is))
      case e_BadNumber => (refine' ⟨_, _, Dl.err2_of ⟨PySem.W.mg_of KX G ?g, ?xP, ?kP, ?bP, ?tP, ?iP⟩ (PySem.W.mg_of KX G ?g2) ?b1 ?t1 ?i1 ?s1 ⟨?h1, ?h2, ?h3, ?h4, ?h5, ?h6, ?h7, ?h8⟩⟩; (case g => k_is); (case g2 => k_is); (case xP => k_exc); (case kP => k_is); (case bP => k_is); (case tP => k_is); (case iP => k_is); (case b1 => k_is); (case t1 => k_is); (case i1 => k_is); (case s1 => k_is); (case h1 => k_is); (case h2 => k_is); (case h3 => k_is); (case h4 => k_is); (case h5 => k_is); (case h6 => k_is); (case h7 => k_is); (case h8 => k_is))
      case e_BadFraction => (refine' ⟨_, _, Dl.err2_of ⟨PySem.W.mg_of KX G ?g, ?xP, ?kP, ?bP, ?tP, ?iP⟩ (PySem.W.mg_of KX G ?g2) ?b1 ?t1 ?i1 ?s1 ⟨?h1, ?h2, ?h3, ?h4, ?h5, ?h6, ?h7, ?h8⟩⟩; (case g => k_is); (case g2 => k_is); (case xP => k_exc); (case kP => k_is); (case bP => k_is); (case tP => k_is); (case iP => k_is); (case b1 => k_is); (case t1 => k_is); (case i1 => k_is); (case s1 => k_is); (case h1 => k_is); (case h2 => k_is); (case h3 => k_is); (case h4 => k_is); (case h5 => k_is); (case h6 => k_is); (case h7 => k_is); (case h8 => k_is))
      case e_NotMade => (refine' ⟨_, _, Dl.err2_of ⟨PySem.W.mg_of KX G ?g, ?xP, ?kP, ?bP, ?tP, ?iP⟩ (PySem.W.mg_of KX G ?g2) ?b1 ?t1 ?i1 ?s1 ⟨?h1, ?h2, ?h3, ?h4, ?h5, ?h6, ?h7, ?h8⟩⟩; (case g => k_is); (case g2 => k_is); (case xP => k_exc); (case kP => k_is); (case bP => k_is); (case tP => k_is); (case iP => k_is); (case b1 => k_is); (case t1 => k_is); (case i1 => k_is); (case s1 => k_is); (case h1 => k_is); (case h2 => k_is); (case h3 => k_is); (case h4 => k_is); (case h5 => k_is); (case h6 => k_is); (case h7 => k_is); (case h8 => k_is))
      case i_isqrt => exact PySem.W.mg_of KX G (by k_is)
      case m_ValueError => exact PySem.W.mg_none_of KX G (by k_is)
      case m_abs => exact PySem.W.mg_none_of KX G (by k_is)
      case m_bool => exact PySem.W.mg_none_of KX G (by k_is)
      case m_int => exact PySem.W.mg_none_of KX G (by k_is)
      case m_isinstance => exact PySem.W.mg_none_of KX G (by k_is)
      case m_len => exact PySem.W.mg_none_of KX G (by k_is)
      case m_list => exact PySem.W.mg_none_of KX G (by k_is)
      case m_max => exact PySem.W.mg_none_of KX G (by k_is)
      case m_min => exact PySem.W.mg_none_of KX G (by k_is)
      case m_range => exact PySem.W.mg_none_of KX G (by k_is)
      case m_str => exact PySem.W.mg_none_of KX G (by k_is)
      case m_tuple => exact PySem.W.mg_none_of KX G (by k_is)
      case c_MODES => (refine' Dl.tup_mk KX G ?a ?l ?v (by show _ ≤ PySem.sizeLine; decide)); (case a => k_is); (case l => k_is); (case v => exact .cons ⟨_, rfl⟩ (.cons ⟨_, rfl⟩ (.cons ⟨_, rfl⟩ (.cons ⟨_, rfl⟩ (.cons ⟨_, rfl⟩ (.nil))))))
      case c_TINY_WAYS => (refine' Dl.tup_mk KX G ?a ?l ?v (by show _ ≤ PySem.sizeLine; decide)); (case a => k_is); (case l => k_is); (case v => exact .cons ⟨_, rfl⟩ (.cons ⟨_, rfl⟩ (.nil)))
      case c_HUGE_WAYS => (refine' Dl.tup_mk KX G ?a ?l ?v (by show _ ≤ PySem.sizeLine; decide)); (case a => k_is); (case l => k_is); (case v => exact .cons ⟨_, rfl⟩ (.cons ⟨_, rfl⟩ (.nil)))
      case c_LEAST_PRECISION => exact ⟨_, PySem.W.mg_of KX G (by k_is)⟩
      case c_GREATEST_PRECISION => exact ⟨_, PySem.W.mg_of KX G (by k_is)⟩
      case c_GREATEST_EXPONENT => exact ⟨_, PySem.W.mg_of KX G (by k_is)⟩
      case c_GREATEST_SPAN => exact ⟨_, PySem.W.mg_of KX G (by k_is)⟩
      case c_GREATEST_FACTOR => exact ⟨_, PySem.W.mg_of KX G (by k_is)⟩
      case c_GREATEST_POWER => exact ⟨_, PySem.W.mg_of KX G (by k_is)⟩
      case c_GREATEST_PART => exact ⟨_, PySem.W.mg_of KX G (by k_is)⟩
      case c_ROOT_PLACES => exact ⟨_, PySem.W.mg_of KX G (by k_is)⟩
    (case A0 => k_is); (case L0 => k_is); (case C0 => k_is); (case K0 => k_is); (case Z0 => rfl)
