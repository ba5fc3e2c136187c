import PyProof.Rows.All
import Wide.All
import OpenK.AllK
import Wide.FinOn
import HandS.List
import HandS.Text
import HandS.Style
import HandS.ForMost
import HandS.ForExc
import HandS.WideBits
import HandS.Wide
import HandS.IsInst
import HandS.Gcd
import HandS.Flt
import HandS.TupLe
import HandS.SortInts
import HandS.TupMul
import HandS.Star
import HandS.CallLocal
import Flt.RightSqrt
import KE.KMathG
import HandS.Lambda
import HandS.ExcIs
import HandS.EndTab
import KE.KNest
import HandS.DictSub
import HandS.Small
import HandS.StrMore
import KE.IntTextLaws
import PyProof.StrLawsAffix
import HandS.FStr
import KE.DataEq
import PyProof.StrOps2
import KE.KDflt
import HandS.Deep
import KE.DataFind
import HandS.TupAny
import PyProof.EqLayable
import HandS.Iter
import PySem.Challenge.RW_rulesheld_k08_whole_refused
set_option Elab.async false
set_option maxRecDepth 100000
theorem PySem.W.Fast.tw3288353156910357314 : True := trivial
theorem PySem.W.Fast.tw8263856407341538822 : True := trivial
theorem PySem.W.Fast.tw12066903703914014607 : True := trivial
theorem PySem.W.Fast.tw16525120653835715047 : True := trivial
open PySem PySem.W PyProof.Rows in
set_option maxRecDepth 100000 in
set_option maxHeartbeats 0 in
open_top h8 for PySem.Challenge.rw_rulesheld_k08_whole_refused
set_option Elab.async false
set_option linter.all false
set_option maxRecDepth 100000
set_option maxHeartbeats 4000000
/-! Dl: tuples made at run time, of which it is known that they have no dict of their own -/
namespace Dl
open PySem PySem.Spec PyProof.Rows L2
section
variable {X : Cx} {pos : Pos} {es : List Expr} {t : TA}
theorem frz_ok {P : Program} {w : World} {H : Hp} {h : Heap} {a : Addr} {xs : List V} {us : List Value} {n : Nat} (hz : xs.length ≤ sizeLine) (r : Vals xs us) (hg : h.get? a = some { cls := .type "tuple", data := .seq us.toArray n }) :
    ObjOk P w H h a (.frz { cls := .type "tuple", data := .seq us.toArray n } (.tup xs)) := ⟨hg, hz, us, r, ⟨_, hg, rfl, n, rfl⟩⟩
def tTupF (t : TA) : TE := fun σ H Q => t σ H fun xs H1 => xs.length ≤ sizeLine ∧ ∀ p o, o.dict = none → H1 p = none → Q (.ref p) (upd H1 p (.frz o (.tup xs)))
theorem pe_tupF {x1} (h : PA X es t) : PE X (.Tuple es x1 pos) (tTupF t) := by
  refine ⟨fun pins s σ H Q I hq => ?_⟩
  refine wpAny_Tuple_spliced (thn (h.run pos pins s σ H _ I hq) fun us s1 ⟨xs, H1, I1, r, z, q⟩ => ⟨by rw [← r.length]; exact z, ?_⟩)
  have hf : H1 s1.heap.objs.size = none := I1.hok.fresh (Nat.le_refl _)
  exact ⟨.ref s1.heap.objs.size, _, I1.laid (t' := s1.toks) (fun b u e => Heap.get?_push_of_some _ e) (Nat.le_refl _) (frz_ok z r (Heap.get?_push_size _ rfl)), rfl, q _ _ rfl hf⟩
def rSlTF (K : PySem.W.Frag) : V → Option Int → Option Int → Hp → VK → Prop := fun x lo hi H Q => ∃ a xs, x = .ref a ∧ SqT K H a xs ∧
  ¬ (HT.sIx xs.length 0 lo = 0 ∧ HT.sIx xs.length xs.length hi = xs.length) ∧ ∀ p o, o.dict = none → H p = none → Q (.ref p) (upd H p (.frz o (.tup (cutV xs lo hi))))
theorem sl_tupF : SlR X (rSlTF X.K) := by
  intro pins s σ H x v vl vu lo hi sl Q I rx hs pl pu h
  obtain ⟨a, xs, rfl, hx, hw, q⟩ := h
  cases rx
  obtain ⟨its, r, ht, hz⟩ := I.tuple hx
  have hlen : its.toArray.size = xs.length := by rw [List.size_toArray]; exact r.length.symm
  refine ⟨"tuple", _, PyProof.Rows.slot_tuple_getitem.lookup, ht.typeIs, ?_⟩
  refine HT.getItem_tuple_cut ht hs pl pu (by rw [hlen]; exact hw) ?_ (by rw [hlen]; exact hz)
  rw [hlen]
  exact ⟨.ref s.heap.objs.size, _, I.laid (t' := s.toks) (fun b ob q => Heap.get?_push_of_some _ q) (Nat.le_refl _) (frz_ok (Nat.le_trans (cutV_length xs lo hi) hz) ((r.drop (HT.sIx xs.length 0 lo)).take (HT.sIx xs.length xs.length hi - HT.sIx xs.length 0 lo)) (Heap.get?_push_size _ rfl)), rfl, q _ _ rfl (I.hok.fresh (Nat.le_refl _))⟩
def rCatTF (K : PySem.W.Frag) : R2 := fun x y H Q => ∃ a b xs ys, x = .ref a ∧ y = .ref b ∧ SqT K H a xs ∧ SqT K H b ys ∧ xs ≠ [] ∧ ys ≠ [] ∧ xs.length + ys.length ≤ sizeLine ∧
  ∀ p o, o.dict = none → H p = none → Q (.ref p) (upd H p (.frz o (.tup (xs ++ ys))))
theorem op_catTF : OpR X (binaryOp .Add) (rCatTF X.K) := by
  intro pins s σ H x y v u Q I rx ry h
  obtain ⟨a, b, xs, ys, rfl, rfl, ha, hb, hx, hy, hz, q2⟩ := h
  cases rx
  cases ry
  obtain ⟨its, r1, p1, _⟩ := I.tuple ha
  obtain ⟨its2, r2, p2, _⟩ := I.tuple hb
  refine HT.cat_tup p1 p2 (fun z => hx (r1.nil_iff.mp z)) (fun z => absurd (r2.nil_iff.mp z) hy) (fun z => ?_) (by rw [← r1.length, ← r2.length]; exact hz)
  exact ⟨.ref s.heap.objs.size, _, I.laid (t' := s.toks) (fun b ob q => Heap.get?_push_of_some _ q) (Nat.le_refl _) (frz_ok (by rw [List.length_append]; exact hz) (r1.append r2) (Heap.get?_push_size _ rfl)), rfl, q2 _ _ rfl (I.hok.fresh (Nat.le_refl _))⟩
end
end Dl
namespace Dl
open PySem PySem.Spec PyProof.Rows L2
end Dl
set_option Elab.async false
set_option linter.all false
set_option maxRecDepth 100000
set_option maxHeartbeats 4000000
/-! Dl: what an expression or a block is worth, over plain data; the heap is out of sight. -/
namespace Dl
open PySem PySem.Spec PyProof.Rows L2
/-! ### data in a heap, away from the addresses of S -/
abbrev AS := Addr → Prop
/-- a list, a tuple: tracked, away from S; or of the written part -/
def LsN (K : PySem.W.Frag) (S : AS) (H : Hp) (a : Addr) (xs : List V) : Prop := ¬ S a ∧ H a = some (.lst xs)
/-- a written tuple's object has no dict -/
def DN (K : PySem.W.Frag) (a : Addr) : Prop := ∃ o : Obj, K.lookup a = some o ∧ o.cls = .type "tuple" ∧ o.dict = none
def TpN (K : PySem.W.Frag) (S : AS) (H : Hp) (a : Addr) (xs : List V) : Prop := (¬ S a ∧ ∃ o : Obj, o.dict = none ∧ H a = some (.frz o (.tup xs))) ∨ (SqT K (fun _ => none) a xs ∧ DN K a)
mutual
inductive Dn (K : PySem.W.Frag) (S : AS) (H : Hp) : V → PyData → Prop
  | non : Dn K S H .non .none
  | bl (b : Bool) : Dn K S H (.bl b) (.bool b)
  | int (i : Int) : Dn K S H (.int i) (.int i)
  | str (x : Str) : Dn K S H (.str x) (.str x)
  | lst {a : Addr} {xs : List V} {ds : List PyData} : LsN K S H a xs → DnAll K S H xs ds → Dn K S H (.ref a) (.list ds)
  | tup {a : Addr} {xs : List V} {ds : List PyData} : TpN K S H a xs → DnAll K S H xs ds → Dn K S H (.ref a) (.tuple ds)
inductive DnAll (K : PySem.W.Frag) (S : AS) (H : Hp) : List V → List PyData → Prop
  | nil : DnAll K S H [] []
  | cons {v : V} {vs : List V} {d : PyData} {ds : List PyData} : Dn K S H v d → DnAll K S H vs ds → DnAll K S H (v :: vs) (d :: ds)
end
abbrev CS := Addr → HO → Prop
/-- a table of code objects -/
def Tb (o : HO) : Prop := ∃ ps, o = .tbl ps
theorem nTl {xs : List V} : ¬ Tb (.lst xs) := fun ⟨_, z⟩ => by cases z
/-- what is not in C stays -/
structure Xt (C : CS) (H H' : Hp) : Prop where
  k : ∀ a o, ¬ C a o → H a = some o → H' a = some o
abbrev C0 : CS := fun _ _ => False
theorem Xt.refl {C : CS} (H : Hp) : Xt C H H := ⟨fun _ _ _ h => h⟩
theorem Xt.trans {C : CS} {H H1 H2 : Hp} (a : Xt C H H1) (b : Xt C H1 H2) : Xt C H H2 := ⟨fun x o c h => b.k x o c (a.k x o c h)⟩
theorem Xt.of0 {C : CS} {H H' : Hp} (a : Xt C0 H H') : Xt C H H' := ⟨fun x o _ h => a.k x o (fun z => z) h⟩
theorem Xt.mono {C D : CS} {H H' : Hp} (a : Xt C H H') (h : ∀ x o, C x o → D x o) : Xt D H H' := ⟨fun x o c e => a.k x o (fun z => c (h x o z)) e⟩
theorem Xt.put {C : CS} {H : Hp} {p : Addr} {o : HO} (h : (∀ u, C p u) ∨ H p = none) : Xt C H (upd H p o) := ⟨fun a u c e => by
  have hne : a ≠ p := fun z => by
    subst z
    rcases h with h | h
    · exact c (h u)
    · rw [h] at e; cases e
  rw [upd_ne hne]
  exact e⟩
theorem Xt.new {C : CS} {H : Hp} {p : Addr} {o : HO} (h : H p = none) : Xt C H (upd H p o) := .put (.inr h)
theorem Xt.put2 {C : CS} {H H5 : Hp} {p : Addr} {o : HO} (e : Xt C H H5) (h : H p = none) : Xt C H (upd H5 p o) := ⟨fun a u c q => by
  have hne : a ≠ p := fun z => by
    subst z
    rw [h] at q; cases q
  rw [upd_ne hne]
  exact e.k a u c q⟩
theorem rd_mono {C : CS} {H H' : Hp} {a : Addr} {u : HO} (e : Xt C H H') (hn : ∀ o, ¬ Tb o → ¬ C a o) (hu : ¬ Tb u) (h : Rd H a u) : Rd H' a u := by
  rcases h with h | ⟨o, h⟩
  · exact .inl (e.k _ _ (hn _ hu) h)
  · exact .inr ⟨o, e.k _ _ (hn _ fun ⟨_, z⟩ => by cases z) h⟩
theorem sql_w {K : PySem.W.Frag} {H : Hp} {a : Addr} {xs : List V} (h : SqL K (fun _ => none) a xs) : SqL K H a xs := by
  rcases h with (h | ⟨o, h⟩) | h
  · cases h
  · cases h
  · exact .inr h
theorem sqt_w {K : PySem.W.Frag} {H : Hp} {a : Addr} {xs : List V} (h : SqT K (fun _ => none) a xs) : SqT K H a xs := by
  rcases h with (h | ⟨o, h⟩) | h
  · cases h
  · cases h
  · exact .inr h
theorem LsN.sq {K : PySem.W.Frag} {S : AS} {H : Hp} {a : Addr} {xs : List V} (h : LsN K S H a xs) : SqL K H a xs := .inl (.of h.2)
theorem TpN.sq {K : PySem.W.Frag} {S : AS} {H : Hp} {a : Addr} {xs : List V} (h : TpN K S H a xs) : SqT K H a xs := by
  rcases h with ⟨_, o, _, h⟩ | h
  · exact .inl (.inr ⟨o, h⟩)
  · exact sqt_w h.1
theorem LsN.mono {K : PySem.W.Frag} {S : AS} {C : CS} {H H' : Hp} {a : Addr} {xs : List V} (hC : ∀ a o, C a o → S a ∨ Tb o) (e : Xt C H H') (h : LsN K S H a xs) : LsN K S H' a xs :=
  ⟨h.1, e.k a _ (fun z => (hC a _ z).elim h.1 nTl) h.2⟩
theorem nTz {o : Obj} {xs : List V} : ¬ Tb (.frz o (.tup xs)) := fun ⟨_, h⟩ => by cases h
theorem TpN.mono {K : PySem.W.Frag} {S : AS} {C : CS} {H H' : Hp} {a : Addr} {xs : List V} (hC : ∀ a o, C a o → S a ∨ Tb o) (e : Xt C H H') (h : TpN K S H a xs) : TpN K S H' a xs := by
  rcases h with ⟨n, o, hd, h⟩ | h
  · exact .inl ⟨n, o, hd, e.k a _ (fun z => (hC a _ z).elim n nTz) h⟩
  · exact .inr h
theorem LsN.less {K : PySem.W.Frag} {S T : AS} {H : Hp} {a : Addr} {xs : List V} (hT : ∀ b, Rd H b (.lst xs) → T b → S b) (h : LsN K S H a xs) : LsN K T H a xs := ⟨fun z => h.1 (hT a (.of h.2) z), h.2⟩
theorem TpN.less {K : PySem.W.Frag} {S T : AS} {H : Hp} {a : Addr} {xs : List V} (hT : ∀ b, Rd H b (.tup xs) → T b → S b) (h : TpN K S H a xs) : TpN K T H a xs := by
  rcases h with ⟨n, o, hd, h⟩ | h
  · exact .inl ⟨fun z => n (hT _ (.inr ⟨o, h⟩) z), o, hd, h⟩
  · exact .inr h
theorem rd_some {H : Hp} {a : Addr} {u : HO} (h : Rd H a u) : H a ≠ none := by
  rcases h with h | ⟨o, h⟩ <;> rw [h] <;> exact fun z => by cases z
section
variable {K : PySem.W.Frag} {S : AS} {C : CS} {H H' : Hp}
mutual
theorem Dn.mono (hC : ∀ a o, C a o → S a ∨ Tb o) (e : Xt C H H') : ∀ (d : PyData) (v : V), Dn K S H v d → Dn K S H' v d
  | .none, _, h => by cases h; exact .non
  | .bool _, _, h => by cases h; exact .bl _
  | .int _, _, h => by cases h; exact .int _
  | .str _, _, h => by cases h; exact .str _
  | .list ds, _, h => by
    cases h with
    | lst hs ha => exact .lst (hs.mono hC e) (Dn.monoAll hC e ds _ ha)
  | .tuple ds, _, h => by
    cases h with
    | tup hs ha => exact .tup (hs.mono hC e) (Dn.monoAll hC e ds _ ha)
  | .dict _, _, h => by cases h
theorem Dn.monoAll (hC : ∀ a o, C a o → S a ∨ Tb o) (e : Xt C H H') : ∀ (ds : List PyData) (vs : List V), DnAll K S H vs ds → DnAll K S H' vs ds
  | [], _, h => by cases h; exact .nil
  | d :: ds, _, h => by
    cases h with
    | cons h1 h2 => exact .cons (Dn.mono hC e d _ h1) (Dn.monoAll hC e ds _ h2)
end
-- away from other addresses, of which none that stands is new
mutual
theorem Dn.less {T : AS} (hT : ∀ a, H a ≠ Option.none → T a → S a) : ∀ (d : PyData) (v : V), Dn K S H v d → Dn K T H v d
  | .none, _, h => by cases h; exact .non
  | .bool _, _, h => by cases h; exact .bl _
  | .int _, _, h => by cases h; exact .int _
  | .str _, _, h => by cases h; exact .str _
  | .list ds, _, h => by
    cases h with
    | lst hs ha => exact .lst (hs.less fun b r => hT b (rd_some r)) (Dn.lessAll hT ds _ ha)
  | .tuple ds, _, h => by
    cases h with
    | tup hs ha => exact .tup (hs.less fun b r => hT b (rd_some r)) (Dn.lessAll hT ds _ ha)
  | .dict _, _, h => by cases h
theorem Dn.lessAll {T : AS} (hT : ∀ a, H a ≠ Option.none → T a → S a) : ∀ (ds : List PyData) (vs : List V), DnAll K S H vs ds → DnAll K T H vs ds
  | [], _, h => by cases h; exact .nil
  | d :: ds, _, h => by
    cases h with
    | cons h1 h2 => exact .cons (Dn.less hT d _ h1) (Dn.lessAll hT ds _ h2)
end
theorem DnAll.length : ∀ {vs : List V} {ds : List PyData}, DnAll K S H vs ds → vs.length = ds.length
  | _, _, .nil => rfl
  | _, _, .cons _ t => congrArg (· + 1) (DnAll.length t)
theorem DnAll.get : ∀ {vs : List V} {ds : List PyData} {i : Nat} {d : PyData}, DnAll K S H vs ds → ds[i]? = some d → ∃ v, vs[i]? = some v ∧ Dn K S H v d
  | _, _, _, _, .nil, e => by simp at e
  | _, _, 0, _, .cons r _, e => by simp at e; subst e; exact ⟨_, rfl, r⟩
  | _, _, i + 1, d, .cons _ t, e => by
    obtain ⟨u, h1, h2⟩ := DnAll.get (i := i) (d := d) t (by simpa using e)
    exact ⟨u, by simpa using h1, h2⟩
theorem DnAll.append : ∀ {xs ys : List V} {ds es : List PyData}, DnAll K S H xs ds → DnAll K S H ys es → DnAll K S H (xs ++ ys) (ds ++ es)
  | _, _, _, _, .nil, s => s
  | _, _, _, _, .cons r t, s => .cons r (DnAll.append t s)
theorem DnAll.take : ∀ {xs : List V} {ds : List PyData} (n : Nat), DnAll K S H xs ds → DnAll K S H (xs.take n) (ds.take n)
  | _, _, 0, _ => by simp; exact .nil
  | _, _, _ + 1, .nil => by simp; exact .nil
  | _, _, n + 1, .cons r t => by simp; exact .cons r (DnAll.take n t)
theorem DnAll.drop : ∀ {xs : List V} {ds : List PyData} (n : Nat), DnAll K S H xs ds → DnAll K S H (xs.drop n) (ds.drop n)
  | _, _, 0, r => by simpa using r
  | _, _, _ + 1, .nil => by simp; exact .nil
  | _, _, n + 1, .cons r t => by simp; exact DnAll.drop n t
end
/-- plain values -/
def scV : PyData → Option V
  | .none => some .non
  | .bool b => some (.bl b)
  | .int i => some (.int i)
  | .str x => some (.str x)
  | _ => none
theorem Dn.sc {K : PySem.W.Frag} {S : AS} {H : Hp} {v w : V} {d : PyData} (h : Dn K S H v d) (e : scV d = some w) : v = w := by
  cases h <;> simp [scV] at e <;> exact e
theorem dn_sc {K : PySem.W.Frag} {S : AS} {H : Hp} {w : V} {d : PyData} (e : scV d = some w) : Dn K S H w d := by
  cases d <;> simp [scV] at e <;> subst e
  · exact .non
  · exact .bl _
  · exact .int _
  · exact .str _
mutual
theorem Dn.dp {K : PySem.W.Frag} {S : AS} {H : Hp} : ∀ (d : PyData) (v : V), Dn K S H v d → Dp K H v d
  | .none, _, h => by cases h; exact .non
  | .bool _, _, h => by cases h; exact .bl _
  | .int _, _, h => by cases h; exact .int _
  | .str _, _, h => by cases h; exact .str _
  | .list ds, _, h => by
    cases h with
    | lst hs ha => exact .lst hs.sq (Dn.dpAll ds _ ha)
  | .tuple ds, _, h => by
    cases h with
    | tup hs ha => exact .tup hs.sq (Dn.dpAll ds _ ha)
  | .dict _, _, h => by cases h
theorem Dn.dpAll {K : PySem.W.Frag} {S : AS} {H : Hp} : ∀ (ds : List PyData) (vs : List V), DnAll K S H vs ds → DpAll K H vs ds
  | [], _, h => by cases h; exact .nil
  | d :: ds, _, h => by
    cases h with
    | cons h1 h2 => exact .cons (Dn.dp d _ h1) (Dn.dpAll ds _ h2)
end
/-! ### frames, slots -/
/-- S: addresses that no data touches; C: those of them that may change; J: what holds of them -/
structure Fm where
  S : AS
  C : CS
  J : Hp → Prop
  sub : ∀ a o, C a o → S a ∨ Tb o
  mono : ∀ H H', Xt C0 H H' → J H → J H'
def Fm.ok (F : Fm) (H : Hp) : Prop := F.J H ∧ ∀ a, F.S a → H a ≠ none
/-- J speaks of no list that data may reach -/
def Fm.soft (F : Fm) : Prop := ∀ H H', (∀ a o, F.S a ∨ (∀ xs, o ≠ HO.lst xs) → H a = some o → H' a = some o) → F.J H → F.J H'
/-- nothing changes -/
def Fm.pure (S : AS) : Fm := ⟨S, C0, fun _ => True, fun _ _ z => z.elim, fun _ _ _ _ => trivial⟩
theorem Fm.soft_pure {S : AS} : (Fm.pure S).soft := fun _ _ _ _ => trivial
inductive Sl where
  | dat (d : PyData)
  | raw (v : V)
abbrev DE := List (Option Sl)
def SlD (K : PySem.W.Frag) (S : AS) (H : Hp) (v : V) : Sl → Prop
  | .dat d => Dn K S H v d
  | .raw w => v = w
structure StD (K : PySem.W.Frag) (S : AS) (H : Hp) (σ : L2.St) (δ : DE) : Prop where
  len : σ.length = δ.length
  at_ : ∀ (i : Nat) (s : Sl), δ[i]? = some (some s) → ∃ v, σ[i]? = some (some v) ∧ SlD K S H v s
theorem SlD.mono {K : PySem.W.Frag} {S : AS} {C : CS} {H H' : Hp} {v : V} {s : Sl} (hC : ∀ a o, C a o → S a ∨ Tb o) (e : Xt C H H') (h : SlD K S H v s) : SlD K S H' v s := by
  cases s with
  | dat d => exact Dn.mono hC e d v h
  | raw w => exact h
theorem StD.mono {K : PySem.W.Frag} {S : AS} {C : CS} {H H' : Hp} {σ : L2.St} {δ : DE} (hC : ∀ a o, C a o → S a ∨ Tb o) (e : Xt C H H') (h : StD K S H σ δ) : StD K S H' σ δ :=
  ⟨h.len, fun i s q => let ⟨v, h1, h2⟩ := h.at_ i s q; ⟨v, h1, h2.mono hC e⟩⟩
theorem StD.set {K : PySem.W.Frag} {S : AS} {H : Hp} {σ : L2.St} {δ : DE} (h : StD K S H σ δ) {v : V} {s : Sl} (j : Nat) (hv : SlD K S H v s) : StD K S H (σ.set j (some v)) (δ.set j (some s)) := by
  refine ⟨by simp [h.len], fun i t q => ?_⟩
  by_cases hj : j = i
  · subst hj
    rw [List.getElem?_set] at q
    split at q
    · rename_i hl
      split at q
      · rename_i hl2
        cases q
        refine ⟨v, ?_, hv⟩
        rw [List.getElem?_set]
        rw [if_pos rfl, if_pos (by rw [h.len]; exact hl2)]
      · cases q
    · rename_i z; exact absurd rfl z
  · rw [List.getElem?_set_ne hj] at q
    obtain ⟨w, h1, h2⟩ := h.at_ i t q
    exact ⟨w, by rw [List.getElem?_set_ne hj]; exact h1, h2⟩
theorem StD.setD {K : PySem.W.Frag} {S : AS} {H : Hp} {σ : L2.St} {δ : DE} (h : StD K S H σ δ) {v : V} {d : PyData} (j : Nat) (hv : Dn K S H v d) : StD K S H (σ.set j (some v)) (δ.set j (some (.dat d))) := h.set (s := .dat d) j hv
theorem Fm.ok.mono {F : Fm} {H H' : Hp} (h : F.ok H) (e : Xt C0 H H') : F.ok H' := ⟨F.mono _ _ e h.1, fun a s z => by
  cases q : H a with
  | none => exact h.2 a s q
  | some o => rw [e.k a o (fun z => z) q] at z; cases z⟩
/-- what no data touches stands as it was -/
theorem Fm.ok.same {F : Fm} {H H' : Hp} (hs : F.soft) (h : F.ok H) (e : ∀ a o, F.S a ∨ (∀ xs, o ≠ HO.lst xs) → H a = some o → H' a = some o) : F.ok H' := ⟨hs _ _ e h.1, fun a s z => by
  cases q : H a with
  | none => exact h.2 a s q
  | some o => rw [e a o (.inl s) q] at z; cases z⟩
theorem Fm.ok.fresh {F : Fm} {H : Hp} {p : Addr} (h : F.ok H) (hp : H p = none) : ¬ F.S p := fun s => h.2 p s hp
theorem SlD.less {K : PySem.W.Frag} {S T : AS} {H : Hp} {v : V} {s : Sl} (hT : ∀ a, H a ≠ none → T a → S a) (h : SlD K S H v s) : SlD K T H v s := by
  cases s with
  | dat d => exact Dn.less hT d v h
  | raw w => exact h
theorem StD.less {K : PySem.W.Frag} {S T : AS} {H : Hp} {σ : L2.St} {δ : DE} (hT : ∀ a, H a ≠ none → T a → S a) (h : StD K S H σ δ) : StD K T H σ δ :=
  ⟨h.len, fun i s q => let ⟨v, h1, h2⟩ := h.at_ i s q; ⟨v, h1, h2.less hT⟩⟩
/-- one address more that no data touches -/
def Fm.more (F : Fm) (D : Addr) : Fm := ⟨fun a => F.S a ∨ a = D, F.C, F.J, fun a o z => (F.sub a o z).imp .inl id, F.mono⟩
theorem Fm.soft_more {F : Fm} {D : Addr} (h : F.soft) : (F.more D).soft := fun H H' e => h H H' fun a o s => e a o (s.imp .inl id)
theorem Fm.ok.more {F : Fm} {H : Hp} {D : Addr} (h : F.ok H) (hd : H D ≠ none) : (F.more D).ok H := ⟨h.1, fun a s => by
  rcases s with s | s
  · exact h.2 a s
  · subst s; exact hd⟩
theorem Fm.ok.less {F : Fm} {H : Hp} {D : Addr} (h : (F.more D).ok H) : F.ok H := ⟨h.1, fun a s => h.2 a (.inl s)⟩
/-! ### a piece of syntax as its own reading -/
def semE (X : Cx) (e : Expr) : TE := fun σ H Q => ∀ (pins : List (Addr × Obj)) (s : Shared), Inv X pins σ H s → wpAny (model X.prog X.w) X.A (eval e X.env) (EP X pins σ Q) X.xe s
theorem pe_sem (X : Cx) (e : Expr) : PE X e (semE X e) := ⟨fun pins s σ H Q I h => h pins s I⟩
theorem _root_.L2.PE.sem {X : Cx} {e : Expr} {t : TE} (h : PE X e t) {σ : L2.St} {H : Hp} {Q : VK} (q : t σ H Q) : semE X e σ H Q := fun pins s I => h.run pins s σ H Q I q
def semT (X : Cx) (e : Expr) : TT := fun σ H Q => ∀ (pins : List (Addr × Obj)) (s : Shared), Inv X pins σ H s → wpAny (model X.prog X.w) X.A (isTrue e X.env (eval e X.env)) (TP X pins σ Q) X.xe s
theorem pt_sem (X : Cx) (e : Expr) : PT X e (semT X e) := ⟨fun pins s σ H Q I h => h pins s I⟩
theorem _root_.L2.PT.sem {X : Cx} {e : Expr} {t : TT} (h : PT X e t) {σ : L2.St} {H : Hp} {Q : Bool → Hp → Prop} (q : t σ H Q) : semT X e σ H Q := fun pins s I => h.run pins s σ H Q I q
def semA (X : Cx) (es : List Expr) : TA := fun σ H Q => ∀ (pos : Pos) (pins : List (Addr × Obj)) (s : Shared), Inv X pins σ H s → wpAny (model X.prog X.w) X.A (spliced (backTo pos (starEach es X.env))) (AP X pins σ Q) X.xe s
theorem pa_sem (X : Cx) (es : List Expr) : PA X es (semA X es) := ⟨fun pos pins s σ H Q I h => h pos pins s I⟩
theorem _root_.L2.PA.sem {X : Cx} {es : List Expr} {t : TA} (h : PA X es t) {σ : L2.St} {H : Hp} {Q : List V → Hp → Prop} (q : t σ H Q) : semA X es σ H Q := fun pos pins s I => h.run pos pins s σ H Q I q
def semS (X : Cx) (st : Stmt) : TS := fun D σ H => ∀ (pins : List (Addr × Obj)) (s : Shared), Inv X pins σ H s → wpAny (model X.prog X.w) X.A (exec st X.env) (SP X pins D) X.xe s
def semSs (X : Cx) (st : List Stmt) : TS := fun D σ H => ∀ (pins : List (Addr × Obj)) (s : Shared), Inv X pins σ H s → wpAny (model X.prog X.w) X.A (execs st X.env) (SP X pins D) X.xe s
theorem pss_sem (X : Cx) (st : List Stmt) : PSs X st (semSs X st) := ⟨fun pins s σ H D I h => h pins s I⟩
theorem _root_.L2.PSs.sem {X : Cx} {st : List Stmt} {t : TS} (h : PSs X st t) {σ : L2.St} {H : Hp} {D : Ends} (q : t D σ H) : semSs X st D σ H := fun pins s I => h.run pins s σ H D I q
theorem _root_.L2.PS.sem {X : Cx} {st : Stmt} {t : TS} (h : PS X st t) {σ : L2.St} {H : Hp} {D : Ends} (q : t D σ H) : semS X st D σ H := fun pins s I => h.run pins s σ H D I q
/-! ### the judgements -/
/-- e comes to some data of which k holds -/
def VE (F : Fm) (X : Cx) (e : Expr) (δ : DE) (k : PyData → Prop) : Prop := ∀ (σ : L2.St) (H : Hp) (Q : VK), F.ok H → StD X.K F.S H σ δ →
  (∀ (v : V) (H' : Hp) (d : PyData), Xt F.C H H' → F.ok H' → Dn X.K F.S H' v d → k d → Q v H') → semE X e σ H Q
/-- e comes to d -/
abbrev VD (F : Fm) (X : Cx) (e : Expr) (δ : DE) (d : PyData) : Prop := VE F X e δ fun x => x = d
def VT (F : Fm) (X : Cx) (e : Expr) (δ : DE) (k : Bool → Prop) : Prop := ∀ (σ : L2.St) (H : Hp) (Q : Bool → Hp → Prop), F.ok H → StD X.K F.S H σ δ →
  (∀ (b : Bool) (H' : Hp), Xt F.C H H' → F.ok H' → k b → Q b H') → semT X e σ H Q
abbrev VB (F : Fm) (X : Cx) (e : Expr) (δ : DE) (b : Bool) : Prop := VT F X e δ fun x => x = b
def VA (F : Fm) (X : Cx) (es : List Expr) (δ : DE) (k : List PyData → Prop) : Prop := ∀ (σ : L2.St) (H : Hp) (Q : List V → Hp → Prop), F.ok H → StD X.K F.S H σ δ →
  (∀ (vs : List V) (H' : Hp) (ds : List PyData), Xt F.C H H' → F.ok H' → DnAll X.K F.S H' vs ds → k ds → Q vs H') → semA X es σ H Q
abbrev VL (F : Fm) (X : Cx) (es : List Expr) (δ : DE) (ds : List PyData) : Prop := VA F X es δ fun x => x = ds
structure Out where
  nx : DE → Prop
  rt : PyData → Prop
  bk : DE → Prop := fun _ => False
  ct : DE → Prop := fun _ => False
structure EndsOk (F : Fm) (K : PySem.W.Frag) (H : Hp) (R : Out) (D : Ends) : Prop where
  nx : ∀ σ' H' δ', Xt F.C H H' → F.ok H' → StD K F.S H' σ' δ' → R.nx δ' → D.nx σ' H'
  bk : ∀ σ' H' δ', Xt F.C H H' → F.ok H' → StD K F.S H' σ' δ' → R.bk δ' → D.bk σ' H'
  ct : ∀ σ' H' δ', Xt F.C H H' → F.ok H' → StD K F.S H' σ' δ' → R.ct δ' → D.ct σ' H'
  rt : ∀ v H' d, Xt F.C H H' → F.ok H' → Dn K F.S H' v d → R.rt d → D.rt v H'
theorem EndsOk.mono {F : Fm} {K : PySem.W.Frag} {H H' : Hp} {R : Out} {D : Ends} (h : EndsOk F K H R D) (e : Xt F.C H H') : EndsOk F K H' R D :=
  ⟨fun σ' H2 δ' e2 => h.nx σ' H2 δ' (e.trans e2), fun σ' H2 δ' e2 => h.bk σ' H2 δ' (e.trans e2), fun σ' H2 δ' e2 => h.ct σ' H2 δ' (e.trans e2), fun v H2 d e2 => h.rt v H2 d (e.trans e2)⟩
def VS (F : Fm) (X : Cx) (sts : List Stmt) (δ : DE) (R : Out) : Prop := ∀ (σ : L2.St) (H : Hp) (D : Ends), F.ok H → StD X.K F.S H σ δ → EndsOk F X.K H R D → semSs X sts D σ H
end Dl
set_option Elab.async false
set_option linter.all false
set_option maxRecDepth 100000
set_option maxHeartbeats 4000000
namespace Dl
open PySem PySem.Spec PyProof.Rows L2
/-! ### expressions -/
section
variable {F : Fm} {X : Cx} {δ : DE} {k k' : PyData → Prop}
theorem VE.mono {e : Expr} (h : VE F X e δ k) (w : ∀ d, k d → k' d) : VE F X e δ k' := fun σ H Q o s q => h σ H Q o s fun v H' d x o' n kd => q v H' d x o' n (w d kd)
theorem VE.to {e : Expr} {d : PyData} (h : VD F X e δ d) (w : k d) : VE F X e δ k := h.mono fun x e => by subst e; exact w
theorem VD.is {e : Expr} {d d' : PyData} (h : VD F X e δ d) (w : d = d') : VD F X e δ d' := by subst w; exact h
theorem VT.mono {e : Expr} {k k' : Bool → Prop} (h : VT F X e δ k) (w : ∀ d, k d → k' d) : VT F X e δ k' := fun σ H Q o s q => h σ H Q o s fun b H' x o' kd => q b H' x o' (w b kd)
theorem VT.to {e : Expr} {k : Bool → Prop} {b : Bool} (h : VB F X e δ b) (w : k b) : VT F X e δ k := h.mono fun x e => by subst e; exact w
theorem VB.is {e : Expr} {d d' : Bool} (h : VB F X e δ d) (w : d = d') : VB F X e δ d' := by subst w; exact h
theorem VA.mono {es : List Expr} {k k' : List PyData → Prop} (h : VA F X es δ k) (w : ∀ d, k d → k' d) : VA F X es δ k' := fun σ H Q o s q => h σ H Q o s fun v H' d x o' n kd => q v H' d x o' n (w d kd)
theorem VA.to {es : List Expr} {k : List PyData → Prop} {d : List PyData} (h : VL F X es δ d) (w : k d) : VA F X es δ k := h.mono fun x e => by subst e; exact w
theorem Fm.ok.all {F : Fm} {H : Hp} (o : F.ok H) {σ : L2.St} {δ : DE} {K : PySem.W.Frag} (s : StD K F.S H σ δ) {H' : Hp} (e : Xt F.C H H') : StD K F.S H' σ δ := s.mono F.sub e
theorem vd_var (i : Nat) {x : Str} {pos : Pos} {d : PyData} (hd : δ[i]? = some (some (.dat d)) := by rfl) (hN : X.N[i]? = some x := by rfl) (hv : Vis X.env.scope x := by first | exact Or.inl rfl | exact Or.inr (Or.inl rfl) | exact Or.inr (Or.inr rfl))
    (hdb : (x == ("__debug__" : Str)) = false := by decide) (hcd : (x == ("__classdict__" : Str)) = false := by decide) : VD F X (.Name x pos) δ d := fun σ H Q o s q =>
  (pe_var hN hv hdb hcd).sem (by
    obtain ⟨v, h1, h2⟩ := s.at_ i _ hd
    exact ⟨v, h1, q v H d (.refl H) o h2 rfl⟩)
theorem vd_c {e : Expr} {v : V} {d : PyData} (h : PE X e (tC v)) (hs : scV d = some v) : VD F X e δ d := fun σ H Q o s q => h.sem (show Q v H from q v H d (.refl H) o (dn_sc hs) rfl)
theorem vd_int {i : Int} {j pos} : VD F X (.Constant (.int i) j pos) δ (.int i) := vd_c pe_int rfl
theorem vd_bl {b : Bool} {j pos} : VD F X (.Constant (.bool b) j pos) δ (.bool b) := vd_c pe_bl rfl
theorem vd_non {j pos} : VD F X (.Constant .none j pos) δ .none := vd_c pe_non rfl
theorem vd_str {x : Str} {j pos} : VD F X (.Constant (.str x) j pos) δ (.str x) := vd_c pe_str rfl
theorem vd_gint {x : Str} {pos : Pos} {i : Int} {t : Tok} (hm : X.mg x = some (.int i t)) (hg : Gl X x := by rfl) (hd : (x == ("__debug__" : Str)) = false := by decide) : VD F X (.Name x pos) δ (.int i) := vd_c (pe_glob (v := .int i) hg hm ⟨t, rfl⟩ hd) rfl
/-- r of x and y gives z -/
def OpD (K : PySem.W.Frag) (r : R2) (x y z : PyData) : Prop := ∀ (S : AS) (H : Hp) (vx vy : V) (Q : VK), (∀ a, S a → H a ≠ none) → Dn K S H vx x → Dn K S H vy y → (∀ v H', Xt C0 H H' → Dn K S H' v z → Q v H') → r vx vy H Q
theorem opd_I0 {K : PySem.W.Frag} {g : Int → Int → V} {i j : Int} {z : PyData} (hz : scV z = some (g i j)) : OpD K (rI0 g) (.int i) (.int j) z := fun S H vx vy Q _ hx hy q => ⟨i, j, hx.sc rfl, hy.sc rfl, q _ H (.refl H) (dn_sc hz)⟩
theorem opd_I {K : PySem.W.Frag} {C : Int → Int → Prop} {g : Int → Int → V} {i j : Int} {z : PyData} (hc : C i j) (hz : scV z = some (g i j)) : OpD K (rI C g) (.int i) (.int j) z := fun S H vx vy Q _ hx hy q => ⟨i, j, hx.sc rfl, hy.sc rfl, hc, q _ H (.refl H) (dn_sc hz)⟩
theorem ve_two {a b e : Expr} {r : R2} (he : PE X e (tOp r (semE X a) (semE X b))) (ha : VE F X a δ fun x => VE F X b δ fun y => ∃ z, OpD X.K r x y z ∧ k z) : VE F X e δ k := fun σ H Q o s q =>
  he.sem (ha σ H _ o s fun x H1 dx e1 o1 nx kx => kx σ H1 _ o1 (o.all s e1) fun y H2 dy e2 o2 ny ⟨z, hop, kz⟩ =>
    hop F.S H2 x y Q o2.2 (Dn.mono F.sub e2 _ _ nx) ny fun v H' e3 nz => q v H' z ((e1.trans e2).trans e3.of0) (o2.mono e3) nz kz)
theorem vd_two {a b e : Expr} {r : R2} {x y z : PyData} (he : PE X e (tOp r (semE X a) (semE X b))) (hop : OpD X.K r x y z) (ha : VD F X a δ x) (hb : VD F X b δ y) : VD F X e δ z :=
  ve_two he (ha.to (hb.to ⟨z, hop, rfl⟩))
theorem ve_op {a b : Expr} {op : Operator} {r : R2} {pos : Pos} (ho : OpR X (binaryOp op) r) (ha : VE F X a δ fun x => VE F X b δ fun y => ∃ z, OpD X.K r x y z ∧ k z) : VE F X (.BinOp a op b pos) δ k := ve_two (pe_op ho (pe_sem X a) (pe_sem X b)) ha
theorem vd_op {a b : Expr} {op : Operator} {r : R2} {pos : Pos} {x y z : PyData} (ho : OpR X (binaryOp op) r) (hop : OpD X.K r x y z) (ha : VD F X a δ x) (hb : VD F X b δ y) : VD F X (.BinOp a op b pos) δ z := vd_two (pe_op ho (pe_sem X a) (pe_sem X b)) hop ha hb
section
variable {a b : Expr} {pos : Pos} {i j : Int}
theorem vd_add (ha : VD F X a δ (.int i)) (hb : VD F X b δ (.int j)) : VD F X (.BinOp a .Add b pos) δ (.int (i + j)) := vd_op op_add (opd_I0 rfl) ha hb
theorem vd_sub (ha : VD F X a δ (.int i)) (hb : VD F X b δ (.int j)) : VD F X (.BinOp a .Sub b pos) δ (.int (i - j)) := vd_op op_sub (opd_I0 rfl) ha hb
theorem vd_mul (ha : VD F X a δ (.int i)) (hb : VD F X b δ (.int j)) (hc : CMulX i j) : VD F X (.BinOp a .Mult b pos) δ (.int (i * j)) := vd_op op_mulX (opd_I hc rfl) ha hb
theorem vd_fdiv (ha : VD F X a δ (.int i)) (hb : VD F X b δ (.int j)) (hc : CDivW i j) : VD F X (.BinOp a .FloorDiv b pos) δ (.int (i / j)) := vd_op op_fdivW (opd_I hc rfl) ha hb
theorem vd_mod (ha : VD F X a δ (.int i)) (hb : VD F X b δ (.int j)) (hc : 0 < j) : VD F X (.BinOp a .Mod b pos) δ (.int (i % j)) := vd_op op_mod (opd_I hc rfl) ha hb
theorem vd_shl (ha : VD F X a δ (.int i)) (hb : VD F X b δ (.int j)) (hc : CShl i j) : VD F X (.BinOp a .LShift b pos) δ (.int (i * 2 ^ j.toNat)) := vd_op op_shlW (opd_I hc rfl) ha hb
theorem vd_pow (ha : VD F X a δ (.int i)) (hb : VD F X b δ (.int j)) (hc : CPow i j) : VD F X (.BinOp a .Pow b pos) δ (.int (i ^ j.toNat)) := vd_op op_pow (opd_I hc rfl) ha hb
theorem ve_add (ha : VE F X a δ fun x => VE F X b δ fun y => ∃ i j, x = .int i ∧ y = .int j ∧ k (.int (i + j))) : VE F X (.BinOp a .Add b pos) δ k :=
  ve_op op_add (ha.mono fun x hb => hb.mono fun y ⟨i, j, e1, e2, w⟩ => ⟨.int (i + j), by subst e1 e2; exact opd_I0 rfl, w⟩)
theorem ve_sub (ha : VE F X a δ fun x => VE F X b δ fun y => ∃ i j, x = .int i ∧ y = .int j ∧ k (.int (i - j))) : VE F X (.BinOp a .Sub b pos) δ k :=
  ve_op op_sub (ha.mono fun x hb => hb.mono fun y ⟨i, j, e1, e2, w⟩ => ⟨.int (i - j), by subst e1 e2; exact opd_I0 rfl, w⟩)
theorem ve_mul (ha : VE F X a δ fun x => VE F X b δ fun y => ∃ i j, x = .int i ∧ y = .int j ∧ CMulX i j ∧ k (.int (i * j))) : VE F X (.BinOp a .Mult b pos) δ k :=
  ve_op op_mulX (ha.mono fun x hb => hb.mono fun y ⟨i, j, e1, e2, hc, w⟩ => ⟨.int (i * j), by subst e1 e2; exact opd_I hc rfl, w⟩)
theorem vd_neg (ha : VD F X a δ (.int i)) : VD F X (.UnaryOp .USub a pos) δ (.int (-i)) := fun σ H Q o s q =>
  (pe_un un_neg (pe_sem X a)).sem (ha σ H _ o s fun x H1 dx e1 o1 nx kx => by subst kx; exact ⟨i, nx.sc rfl, q _ H1 _ e1 o1 (.int _) rfl⟩)
/-! comparisons -/
theorem vd_cmp {op : CmpOp} {r : R2} {x y z : PyData} (ho : OpR X (compareOp op) r) (hm : behindInMarks op b = false) (hop : OpD X.K r x y z) (ha : VD F X a δ x) (hb : VD F X b δ y) : VD F X (.Compare a [op] [b] pos) δ z := vd_two (pe_cmpR ho (pe_sem X a) (pe_sem X b) hm) hop ha hb
theorem vt_cmp {op : CmpOp} {r : R2} {k : Bool → Prop} (ho : OpR X (compareOp op) r) (hm : behindInMarks op b = false) (ha : VE F X a δ fun x => VE F X b δ fun y => ∃ z, OpD X.K r x y (.bool z) ∧ k z) : VT F X (.Compare a [op] [b] pos) δ k := fun σ H Q o s q =>
  (pt_cmpR ho (pe_sem X a) (pe_sem X b) hm).sem (ha σ H _ o s fun x H1 dx e1 o1 nx kx => kx σ H1 _ o1 (o.all s e1) fun y H2 dy e2 o2 ny ⟨z, hop, kz⟩ =>
    hop F.S H2 x y _ o2.2 (Dn.mono F.sub e2 _ _ nx) ny fun v H' e3 nz => ⟨z, nz.sc rfl, q z H' ((e1.trans e2).trans e3.of0) (o2.mono e3) kz⟩)
theorem vb_cmp {op : CmpOp} {r : R2} {x y : PyData} {z : Bool} (ho : OpR X (compareOp op) r) (hm : behindInMarks op b = false) (hop : OpD X.K r x y (.bool z)) (ha : VD F X a δ x) (hb : VD F X b δ y) : VB F X (.Compare a [op] [b] pos) δ z := vt_cmp ho hm (ha.to (hb.to ⟨z, hop, rfl⟩))
theorem vd_ge (ha : VD F X a δ (.int i)) (hb : VD F X b δ (.int j)) : VD F X (.Compare a [.GtE] [b] pos) δ (.bool (decide (j ≤ i))) := vd_cmp op_ge (nomark _) (opd_I0 rfl) ha hb
theorem vb_lt (ha : VD F X a δ (.int i)) (hb : VD F X b δ (.int j)) : VB F X (.Compare a [.Lt] [b] pos) δ (decide (i < j)) := vb_cmp op_lt (nomark _) (opd_I0 rfl) ha hb
theorem vb_gt (ha : VD F X a δ (.int i)) (hb : VD F X b δ (.int j)) : VB F X (.Compare a [.Gt] [b] pos) δ (decide (j < i)) := vb_cmp op_gt (nomark _) (opd_I0 rfl) ha hb
theorem opd_eq {K : PySem.W.Frag} {x y : PyData} {vx vy : V} (hx : scV x = some vx) (hy : scV y = some vy) (h : scal vx vy = true) : OpD K rEq x y (.bool (decide (vx = vy))) := fun S H ux uy Q _ nx ny q => by
  rw [nx.sc hx, ny.sc hy]
  exact ⟨h, q _ H (.refl H) (.bl _)⟩
theorem opd_ne {K : PySem.W.Frag} {x y : PyData} {vx vy : V} (hx : scV x = some vx) (hy : scV y = some vy) (h : scal vx vy = true) : OpD K rNe x y (.bool (!decide (vx = vy))) := fun S H ux uy Q _ nx ny q => by
  rw [nx.sc hx, ny.sc hy]
  exact ⟨h, q _ H (.refl H) (.bl _)⟩
theorem dec_int (i j : Int) : decide (V.int i = V.int j) = decide (i = j) := by
  by_cases h : i = j
  · rw [decide_eq_true h, h]; simp
  · rw [decide_eq_false h, decide_eq_false fun z => h (V.int.inj z)]
theorem dec_str (i j : Str) : decide (V.str i = V.str j) = decide (i = j) := by
  by_cases h : i = j
  · rw [decide_eq_true h, h]; simp
  · rw [decide_eq_false h, decide_eq_false fun z => h (V.str.inj z)]
theorem opd_eqI {K : PySem.W.Frag} : OpD K rEq (.int i) (.int j) (.bool (decide (i = j))) := by rw [← dec_int]; exact opd_eq rfl rfl rfl
theorem opd_neI {K : PySem.W.Frag} : OpD K rNe (.int i) (.int j) (.bool (!decide (i = j))) := by rw [← dec_int]; exact opd_ne rfl rfl rfl
theorem opd_eqS {K : PySem.W.Frag} {x y : Str} : OpD K rEq (.str x) (.str y) (.bool (decide (x = y))) := by rw [← dec_str]; exact opd_eq rfl rfl rfl
theorem opd_neS {K : PySem.W.Frag} {x y : Str} : OpD K rNe (.str x) (.str y) (.bool (!decide (x = y))) := by rw [← dec_str]; exact opd_ne rfl rfl rfl
theorem vd_eqI (ha : VD F X a δ (.int i)) (hb : VD F X b δ (.int j)) : VD F X (.Compare a [.Eq] [b] pos) δ (.bool (decide (i = j))) := vd_cmp op_eq (nomark _) opd_eqI ha hb
theorem vb_eqI (ha : VD F X a δ (.int i)) (hb : VD F X b δ (.int j)) : VB F X (.Compare a [.Eq] [b] pos) δ (decide (i = j)) := vb_cmp op_eq (nomark _) opd_eqI ha hb
theorem vb_neI (ha : VD F X a δ (.int i)) (hb : VD F X b δ (.int j)) : VB F X (.Compare a [.NotEq] [b] pos) δ (!decide (i = j)) := vb_cmp op_ne (nomark _) opd_neI ha hb
theorem vd_eqS {x y : Str} (ha : VD F X a δ (.str x)) (hb : VD F X b δ (.str y)) : VD F X (.Compare a [.Eq] [b] pos) δ (.bool (decide (x = y))) := vd_cmp op_eq (nomark _) opd_eqS ha hb
theorem vb_eqS {x y : Str} (ha : VD F X a δ (.str x)) (hb : VD F X b δ (.str y)) : VB F X (.Compare a [.Eq] [b] pos) δ (decide (x = y)) := vb_cmp op_eq (nomark _) opd_eqS ha hb
theorem vb_neS {x y : Str} (ha : VD F X a δ (.str x)) (hb : VD F X b δ (.str y)) : VB F X (.Compare a [.NotEq] [b] pos) δ (!decide (x = y)) := vb_cmp op_ne (nomark _) opd_neS ha hb
/-- a plain value in a list or tuple of plain values -/
def scD : PyData → Bool
  | .none => true
  | .bool _ => true
  | .int _ => true
  | .str _ => true
  | _ => false
def eqF : PyData → PyData → Bool
  | .none, .none => true
  | .bool a, .bool b => a == b
  | .bool a, .int b => (if a then 1 else 0) == b
  | .int a, .bool b => a == (if b then 1 else 0)
  | .int a, .int b => a == b
  | .str a, .str b => a == b
  | _, _ => false
def inF (x : PyData) (ys : List PyData) : Bool := ys.any fun y => eqF y x
theorem Dn.flat {K : PySem.W.Frag} {S : AS} {H : Hp} {v : V} {d : PyData} (h : Dn K S H v d) (e : scD d = true) : flatV v = true := by
  cases h <;> first | rfl | simp [scD] at e
theorem eqF_V {K : PySem.W.Frag} {S : AS} {H : Hp} {v u : V} {d e : PyData} (h : Dn K S H v d) (g : Dn K S H u e) (hd : scD d = true) (he : scD e = true) : eqV v u = eqF d e := by
  cases h <;> first | (simp [scD] at hd; done) | (cases g <;> first | rfl | (simp [scD] at he; done))
theorem DnAll.flat {K : PySem.W.Frag} {S : AS} {H : Hp} : ∀ {vs : List V} {ds : List PyData}, DnAll K S H vs ds → ds.all scD = true → vs.all flatV = true
  | _, _, .nil, _ => rfl
  | _, _, .cons h t, e => by
    simp only [List.all_cons, Bool.and_eq_true] at e ⊢
    exact ⟨h.flat e.1, t.flat e.2⟩
theorem inF_V {K : PySem.W.Frag} {S : AS} {H : Hp} {u : V} {e : PyData} (g : Dn K S H u e) (he : scD e = true) : ∀ {vs : List V} {ds : List PyData}, DnAll K S H vs ds → ds.all scD = true → inV u vs = inF e ds
  | _, _, .nil, _ => rfl
  | _, _, .cons h t, q => by
    simp only [List.all_cons, Bool.and_eq_true] at q
    have ih := inF_V g he t q.2
    unfold inV inF at ih ⊢
    rw [List.any_cons, List.any_cons, ih, eqF_V h g q.1 he]
def seqOf : PyData → Option (List PyData)
  | .list ds => some ds
  | .tuple ds => some ds
  | _ => none
theorem Dn.seq {K : PySem.W.Frag} {S : AS} {H : Hp} {v : V} {d : PyData} {ds : List PyData} (h : Dn K S H v d) (e : seqOf d = some ds) : ∃ p xs, v = .ref p ∧ (SqL K H p xs ∨ SqT K H p xs) ∧ DnAll K S H xs ds := by
  cases h with
  | lst s a => simp [seqOf] at e; subst e; exact ⟨_, _, rfl, .inl s.sq, a⟩
  | tup s a => simp [seqOf] at e; subst e; exact ⟨_, _, rfl, .inr s.sq, a⟩
  | _ => simp [seqOf] at e
theorem opd_in {K : PySem.W.Frag} {x y : PyData} {ds : List PyData} (hx : scD x = true) (hy : seqOf y = some ds) (hd : ds.all scD = true) : OpD K (rIn K false) x y (.bool (inF x ds)) := fun S H ux uy Q _ nx ny q => by
  obtain ⟨p, xs, rfl, hs, ha⟩ := ny.seq hy
  refine ⟨p, xs, rfl, hs, nx.flat hx, ha.flat hd, ?_⟩
  rw [inF_V nx hx ha hd]
  exact q _ H (.refl H) (.bl _)
theorem vb_in {x y : PyData} {ds : List PyData} (ha : VD F X a δ x) (hb : VD F X b δ y) (hm : behindInMarks .In b = false) (hx : scD x = true) (hy : seqOf y = some ds) (hd : ds.all scD = true) : VB F X (.Compare a [.In] [b] pos) δ (inF x ds) := vb_cmp op_in_seq hm (opd_in hx hy hd) ha hb
end
/-! ### chains -/
section
variable {a b c : Expr} {pos : Pos} {i j m : Int} {op op' : CmpOp} {r r' : R2}
theorem vd_chain {x y w : PyData} {z z' : Bool} (ho : OpR X (compareOp op) r) (ho' : OpR X (compareOp op') r') (h1 : OpD X.K r x y (.bool z)) (h2 : OpD X.K r' y w (.bool z')) (ha : VD F X a δ x) (hb : VD F X b δ y) (hc : VD F X c δ w)
    (hm : lastMarks [op, op'] [b, c] = false := by with_unfolding_all rfl) : VD F X (.Compare a [op, op'] [b, c] pos) δ (.bool (z && z')) := fun σ H Q o s q =>
  (pe_chain ho ho' (pe_sem X a) (pe_sem X b) (pe_sem X c) hm).sem (ha σ H _ o s fun vx H1 dx e1 o1 nx kx => hb σ H1 _ o1 (o.all s e1) fun vy H2 dy e2 o2 ny ky => by
    subst kx ky
    refine h1 F.S H2 vx vy _ o2.2 (Dn.mono F.sub e2 _ _ nx) ny fun v H3 e3 nz => ?_
    have o3 := o2.mono e3
    have e13 := (e1.trans e2).trans (e3.of0 (C := F.C))
    refine ⟨z, nz.sc rfl, ?_⟩
    cases z with
    | false => exact q _ H3 _ e13 o3 (.bl _) rfl
    | true =>
      refine hc σ H3 _ o3 (o.all s e13) fun vw H4 dw e4 o4 nw kw => ?_
      subst kw
      refine h2 F.S H4 vy vw _ o4.2 (Dn.mono F.sub (e3.of0.trans e4) _ _ ny) nw fun v5 H5 e5 n5 => q v5 H5 _ ((e13.trans e4).trans e5.of0) (o4.mono e5) n5 rfl)
/-- a <= b <= c of ints -/
theorem vd_lele (ha : VD F X a δ (.int i)) (hb : VD F X b δ (.int j)) (hc : VD F X c δ (.int m)) (hm : lastMarks [.LtE, .LtE] [b, c] = false := by with_unfolding_all rfl) : VD F X (.Compare a [.LtE, .LtE] [b, c] pos) δ (.bool (decide (i ≤ j) && decide (j ≤ m))) := vd_chain op_le op_le (opd_I0 rfl) (opd_I0 rfl) ha hb hc hm
end
/-! ### and, or, not, if -/
section
variable {a b c : Expr} {rest : List Expr} {pos : Pos} {x y : Bool}
theorem vd_one {op} {d : PyData} (h : VD F X a δ d) : VD F X (.BoolOp op [a] pos) δ d := fun σ H Q o s q => (pe_one (pe_sem X a)).sem (h σ H Q o s q)
theorem vd_and (ha : VD F X a δ (.bool x)) (hb : x = true → VD F X (.BoolOp .And (b :: rest) pos) δ (.bool y)) : VD F X (.BoolOp .And (a :: b :: rest) pos) δ (.bool (x && y)) := fun σ H Q o s q =>
  (pe_and (pe_sem X a) (pe_sem X _)).sem (ha σ H _ o s fun vx H1 dx e1 o1 nx kx => by
    subst kx
    refine ⟨x, nx.sc rfl, ?_⟩
    cases x with
    | false => exact q _ H1 _ e1 o1 (.bl _) rfl
    | true => exact hb rfl σ H1 Q o1 (o.all s e1) fun v H2 d e2 o2 n kd => q v H2 d (e1.trans e2) o2 n (by rw [kd]; rfl))
theorem vd_or (ha : VD F X a δ (.bool x)) (hb : x = false → VD F X (.BoolOp .Or (b :: rest) pos) δ (.bool y)) : VD F X (.BoolOp .Or (a :: b :: rest) pos) δ (.bool (x || y)) := fun σ H Q o s q =>
  (pe_or (pe_sem X a) (pe_sem X _)).sem (ha σ H _ o s fun vx H1 dx e1 o1 nx kx => by
    subst kx
    refine ⟨x, nx.sc rfl, ?_⟩
    cases x with
    | true => exact q _ H1 _ e1 o1 (.bl _) rfl
    | false => exact hb rfl σ H1 Q o1 (o.all s e1) fun v H2 d e2 o2 n kd => q v H2 d (e1.trans e2) o2 n (by rw [kd]; rfl))
theorem vd_not (ha : VD F X a δ (.bool x)) : VD F X (.UnaryOp .Not a pos) δ (.bool (!x)) := fun σ H Q o s q =>
  (pe_not (pe_sem X a)).sem (ha σ H _ o s fun vx H1 dx e1 o1 nx kx => by
    subst kx
    exact ⟨x, nx.sc rfl, q _ H1 _ e1 o1 (.bl _) rfl⟩)
/-- a test whose value is True or False -/
theorem vb_val (h : VD F X a δ (.bool x)) (he : ∀ whole, isTrue a X.env whole = (do let v ← whole; standAt a.pos; holding [v] (truthy v)) := by intro _; rfl) : VB F X a δ x := fun σ H Q o s q =>
  (pt_val (pe_sem X a) he).sem (h σ H _ o s fun vx H1 dx e1 o1 nx kx => by
    subst kx
    exact ⟨x, nx.sc rfl, q _ H1 e1 o1 rfl⟩)
/-- tests of and, or: VW, whatever the whole is -/
def VW (F : Fm) (X : Cx) (e : Expr) (δ : DE) (k : Bool → Prop) : Prop := ∀ (σ : L2.St) (H : Hp) (Q : Bool → Hp → Prop), F.ok H → StD X.K F.S H σ δ →
  (∀ (b : Bool) (H' : Hp), Xt F.C H H' → F.ok H' → k b → Q b H') → ∀ (whole : Sem Value) (pins : List (Addr × Obj)) (s : Shared), Inv X pins σ H s → wpAny (model X.prog X.w) X.A (isTrue e X.env whole) (TP X pins σ Q) X.xe s
theorem VW.vt {e : Expr} {k : Bool → Prop} (h : VW F X e δ k) : VT F X e δ k := fun σ H Q o s q pins sh I => h σ H Q o s q _ pins sh I
theorem _root_.L2.PW.semW {e : Expr} {t : TT} (h : PW X e t) {σ : L2.St} {H : Hp} {Q : Bool → Hp → Prop} (q : t σ H Q) : ∀ (whole : Sem Value) (pins : List (Addr × Obj)) (s : Shared), Inv X pins σ H s → wpAny (model X.prog X.w) X.A (isTrue e X.env whole) (TP X pins σ Q) X.xe s := fun whole pins s I => h.run whole pins s σ H Q I q
def semW (X : Cx) (e : Expr) : TT := fun σ H Q => ∀ (whole : Sem Value) (pins : List (Addr × Obj)) (s : Shared), Inv X pins σ H s → wpAny (model X.prog X.w) X.A (isTrue e X.env whole) (TP X pins σ Q) X.xe s
theorem pw_sem (X : Cx) (e : Expr) : PW X e (semW X e) := ⟨fun whole pins s σ H Q I h => h whole pins s I⟩
theorem vw_or1 {k : Bool → Prop} (ha : VT F X a δ k) : VW F X (.BoolOp .Or [a] pos) δ k := fun σ H Q o s q => PW.semW (pw_or1 (pt_sem X a)) (ha σ H Q o s q)
theorem vw_or {k : Bool → Prop} (ha : VT F X a δ fun x => if x = true then k true else VW F X (.BoolOp .Or (b :: rest) pos) δ k) : VW F X (.BoolOp .Or (a :: b :: rest) pos) δ k := fun σ H Q o s q =>
  PW.semW (pw_or (pt_sem X a) (pw_sem X _)) (ha σ H _ o s fun x H1 e1 o1 kx => by
    cases x with
    | true => exact q _ H1 e1 o1 (by simpa using kx)
    | false =>
      have kx' : VW F X (.BoolOp .Or (b :: rest) pos) δ k := by simpa using kx
      exact kx' σ H1 Q o1 (o.all s e1) fun y H2 e2 o2 ky => q y H2 (e1.trans e2) o2 ky)
abbrev VWB (F : Fm) (X : Cx) (e : Expr) (δ : DE) (b : Bool) : Prop := VW F X e δ fun x => x = b
theorem VW.mono {e : Expr} {k k' : Bool → Prop} (h : VW F X e δ k) (w : ∀ d, k d → k' d) : VW F X e δ k' := fun σ H Q o s q => h σ H Q o s fun b H' x o' kd => q b H' x o' (w b kd)
theorem vwb_or1 (ha : VB F X a δ x) : VWB F X (.BoolOp .Or [a] pos) δ x := vw_or1 ha
theorem vwb_or (ha : VB F X a δ x) (hb : x = false → VWB F X (.BoolOp .Or (b :: rest) pos) δ y) : VWB F X (.BoolOp .Or (a :: b :: rest) pos) δ (x || y) := vw_or (ha.to (by
  cases x with
  | false => simpa using hb rfl
  | true => simp))
theorem vb_not (ha : VB F X a δ x) : VB F X (.UnaryOp .Not a pos) δ (!x) := fun σ H Q o s q => (pt_not (pt_sem X a)).sem (ha σ H _ o s fun b H1 e1 o1 kb => q _ H1 e1 o1 (by rw [kb]))
theorem ve_if (hc : VT F X c δ fun x => if x = true then VE F X a δ k else VE F X b δ k) : VE F X (.IfExp c a b pos) δ k := fun σ H Q o s q =>
  (pe_ifExp (pt_sem X c) (pe_sem X a) (pe_sem X b)).sem (hc σ H _ o s fun x H1 e1 o1 kx => by
    cases x with
    | true =>
      have kx' : VE F X a δ k := by simpa using kx
      exact kx' σ H1 Q o1 (o.all s e1) fun v H2 d e2 o2 n kd => q v H2 d (e1.trans e2) o2 n kd
    | false =>
      have kx' : VE F X b δ k := by simpa using kx
      exact kx' σ H1 Q o1 (o.all s e1) fun v H2 d e2 o2 n kd => q v H2 d (e1.trans e2) o2 n kd)
theorem vd_if {d : PyData} (hc : VB F X c δ x) (ha : x = true → VD F X a δ d) (hb : x = false → VD F X b δ d) : VD F X (.IfExp c a b pos) δ d := ve_if (hc.to (by
  cases x with
  | true => simpa using ha rfl
  | false => simpa using hb rfl))
theorem vd_ite {d d' : PyData} (hc : VB F X c δ x) (ha : x = true → VD F X a δ d) (hb : x = false → VD F X b δ d') : VD F X (.IfExp c a b pos) δ (if x = true then d else d') := ve_if (hc.to (by
  cases x with
  | true => simpa using ha rfl
  | false => simpa using hb rfl))
end
/-! ### arguments, displays, items, slices -/
section
variable {e : Expr} {es : List Expr} {pos : Pos} {d : PyData} {ds : List PyData}
theorem va_nil {k : List PyData → Prop} (h : k []) : VA F X [] δ k := fun σ H Q o s q => pa_nil.sem (show Q [] H from q _ H _ (.refl H) o .nil h)
theorem vl_nil : VL F X [] δ [] := va_nil rfl
theorem va_cons {k : List PyData → Prop} (he : VE F X e δ fun d => VA F X es δ fun ds => k (d :: ds)) (hs : starEach (e :: es) X.env = (false, eval e X.env) :: starEach es X.env := by rfl) : VA F X (e :: es) δ k := fun σ H Q o s q =>
  (pa_cons (pe_sem X e) (pa_sem X es) hs).sem (he σ H _ o s fun v H1 d e1 o1 n1 kd => kd σ H1 _ o1 (o.all s e1) fun vs H2 ds e2 o2 n2 kds => q _ H2 _ (e1.trans e2) o2 (.cons (Dn.mono F.sub e2 _ _ n1) n2) kds)
theorem vl_cons (he : VD F X e δ d) (hr : VL F X es δ ds) (hs : starEach (e :: es) X.env = (false, eval e X.env) :: starEach es X.env := by rfl) : VL F X (e :: es) δ (d :: ds) := va_cons (he.to (hr.to rfl)) hs
theorem ve_tup {x1} (h : VA F X es δ fun ds => ds.length ≤ sizeLine ∧ k (.tuple ds)) : VE F X (.Tuple es x1 pos) δ k := fun σ H Q o s q =>
  (pe_tupF (pa_sem X es)).sem (h σ H _ o s fun vs H1 ds e1 o1 n1 ⟨hl, kd⟩ => ⟨by rw [n1.length]; exact hl, fun p ob hd hp =>
    q _ _ _ (e1.trans (.new hp)) (o1.mono (.new hp)) (.tup (.inl ⟨o1.fresh hp, ob, hd, upd_same⟩) (Dn.monoAll F.sub (.new hp) _ _ n1)) kd⟩)
theorem ve_lst (h : VA F X es δ fun ds => ds.length ≤ sizeLine ∧ k (.list ds)) : VE F X (.List es pos) δ k := fun σ H Q o s q =>
  (pe_lst (pa_sem X es)).sem (h σ H _ o s fun vs H1 ds e1 o1 n1 ⟨hl, kd⟩ => ⟨by rw [n1.length]; exact hl, fun p hp =>
    q _ _ _ (e1.trans (.new hp)) (o1.mono (.new hp)) (.lst ⟨o1.fresh hp, upd_same⟩ (Dn.monoAll F.sub (.new hp) _ _ n1)) kd⟩)
theorem sz_le {n : Nat} (h : n ≤ 100000) : n ≤ sizeLine := Nat.le_trans h (by decide)
theorem vd_tup {x1} (h : VL F X es δ ds) (hl : ds.length ≤ 100000 := by first | decide | simp) : VD F X (.Tuple es x1 pos) δ (.tuple ds) := ve_tup (h.to ⟨sz_le hl, rfl⟩)
theorem vd_lst (h : VL F X es δ ds) (hl : ds.length ≤ 100000 := by first | decide | simp) : VD F X (.List es pos) δ (.list ds) := ve_lst (h.to ⟨sz_le hl, rfl⟩)
/-- xs[i] of a list or a tuple -/
theorem DnAll.atI {K : PySem.W.Frag} {S : AS} {H : Hp} {vs : List V} {ds : List PyData} (h : DnAll K S H vs ds) {i : Int} {d : PyData} (e : atI ds i = some d) : ∃ v, atI vs i = some v ∧ Dn K S H v d := by
  unfold L2.atI at e ⊢
  rw [h.length]
  cases q : ixN ds.length i with
  | none => rw [q] at e; cases e
  | some j =>
    rw [q] at e
    exact h.get (show ds[j]? = some d from e)
variable {a b : Expr} {i : Int}
theorem ve_ixL (ha : VE F X a δ fun x => VE F X b δ fun y => ∃ ds i d, x = .list ds ∧ y = .int i ∧ atI ds i = some d ∧ k d) (hs : PlainIx b := by intro _ _; rfl) : VE F X (.Subscript a b pos) δ k :=
  ve_two (pe_ix ix_list (pe_sem X a) (pe_sem X b) hs) (ha.mono fun x hb => hb.mono fun y ⟨ds, i, d, e1, e2, e3, w⟩ => ⟨d, fun S H vx vy Q _ hx hy q => by
    subst e1 e2
    cases hx with
    | lst sq al =>
      obtain ⟨v, h1, h2⟩ := al.atI e3
      exact ⟨_, _, i, v, rfl, hy.sc rfl, sq.sq, h1, q v H (.refl H) h2⟩, w⟩)
theorem ve_ixT (ha : VE F X a δ fun x => VE F X b δ fun y => ∃ ds i d, x = .tuple ds ∧ y = .int i ∧ atI ds i = some d ∧ k d) (hs : PlainIx b := by intro _ _; rfl) : VE F X (.Subscript a b pos) δ k :=
  ve_two (pe_ix ix_tup (pe_sem X a) (pe_sem X b) hs) (ha.mono fun x hb => hb.mono fun y ⟨ds, i, d, e1, e2, e3, w⟩ => ⟨d, fun S H vx vy Q _ hx hy q => by
    subst e1 e2
    cases hx with
    | tup sq al =>
      obtain ⟨v, h1, h2⟩ := al.atI e3
      exact ⟨_, _, i, v, rfl, hy.sc rfl, sq.sq, h1, q v H (.refl H) h2⟩, w⟩)
theorem vd_ixL (ha : VD F X a δ (.list ds)) (hb : VD F X b δ (.int i)) (h : atI ds i = some d) (hs : PlainIx b := by intro _ _; rfl) : VD F X (.Subscript a b pos) δ d := ve_ixL (ha.to (hb.to ⟨ds, i, d, rfl, rfl, h, rfl⟩)) hs
theorem vd_ixT (ha : VD F X a δ (.tuple ds)) (hb : VD F X b δ (.int i)) (h : atI ds i = some d) (hs : PlainIx b := by intro _ _; rfl) : VD F X (.Subscript a b pos) δ d := ve_ixT (ha.to (hb.to ⟨ds, i, d, rfl, rfl, h, rfl⟩)) hs
/-- x in T, T a module's tuple of plain values -/
theorem flat_dn {K : PySem.W.Frag} {S : AS} {H : Hp} : ∀ {vs : List V} {ds : List PyData}, (∃ ws, ds.map scV = ws.map some ∧ ws = vs) → DnAll K S H vs ds
  | _, [], ⟨ws, h, e⟩ => by
    subst e
    cases ws with
    | nil => exact .nil
    | cons a b => simp at h
  | _, d :: ds, ⟨ws, h, e⟩ => by
    subst e
    cases ws with
    | nil => simp at h
    | cons a b =>
      simp only [List.map_cons, List.cons.injEq] at h
      exact .cons (dn_sc h.1) (flat_dn ⟨b, h.2, rfl⟩)
theorem vd_inK {x : Str} {a : Expr} {pos px : Pos} {t : Addr} {vs : List V} {d : PyData} {ds : List PyData} (ha : VD F X a δ d) (hm : X.mg x = some (.ref t)) (hq : SqT X.K (fun _ => none) t vs) (hd : scD d = true) (hv : ds.map scV = vs.map some) (hf : ds.all scD = true := by rfl) (hg : Gl X x := by rfl) (hdb : (x == ("__debug__" : Str)) = false := by decide) :
    VD F X (.Compare a [.In] [.Name x px] pos) δ (.bool (inF d ds)) := fun σ H Q o s q =>
  (pe_cmpR op_in_seq (pe_sem X a) (pe_glob (v := .ref t) hg hm rfl hdb) rfl).sem (ha σ H _ o s fun v H1 d' e1 o1 n1 kd => by
    subst kd
    have al : DnAll X.K F.S H1 vs ds := flat_dn ⟨vs, hv, rfl⟩
    refine ⟨t, vs, rfl, .inr (sqt_w hq), n1.flat hd, al.flat hf, ?_⟩
    rw [inF_V n1 hd al hf]
    exact q _ H1 _ e1 o1 (.bl _) rfl)
theorem vb_inK {x : Str} {a : Expr} {pos px : Pos} {t : Addr} {vs : List V} {d : PyData} {ds : List PyData} (neg : Bool) (ha : VD F X a δ d) (hm : X.mg x = some (.ref t)) (hq : SqT X.K (fun _ => none) t vs) (hd : scD d = true) (hv : ds.map scV = vs.map some) (hf : ds.all scD = true := by rfl) (hg : Gl X x := by rfl) (hdb : (x == ("__debug__" : Str)) = false := by decide) :
    VB F X (.Compare a [if neg then .NotIn else .In] [.Name x px] pos) δ (if neg then !inF d ds else inF d ds) := fun σ H Q o s q => by
  cases neg with
  | false =>
    refine (pt_cmpR op_in_seq (pe_sem X a) (pe_glob (v := .ref t) hg hm rfl hdb) rfl).sem (ha σ H _ o s fun v H1 d' e1 o1 n1 kd => ?_)
    subst kd
    have al : DnAll X.K F.S H1 vs ds := flat_dn ⟨vs, hv, rfl⟩
    refine ⟨t, vs, rfl, .inr (sqt_w hq), n1.flat hd, al.flat hf, ?_⟩
    rw [inF_V n1 hd al hf]
    exact ⟨_, rfl, q _ H1 e1 o1 rfl⟩
  | true =>
    refine (pt_cmpR op_notIn_seq (pe_sem X a) (pe_glob (v := .ref t) hg hm rfl hdb) rfl).sem (ha σ H _ o s fun v H1 d' e1 o1 n1 kd => ?_)
    subst kd
    have al : DnAll X.K F.S H1 vs ds := flat_dn ⟨vs, hv, rfl⟩
    refine ⟨t, vs, rfl, .inr (sqt_w hq), n1.flat hd, al.flat hf, ?_⟩
    rw [inF_V n1 hd al hf]
    exact ⟨_, rfl, q _ H1 e1 o1 rfl⟩
/-! slices -/
def VO (F : Fm) (X : Cx) (e : Option Expr) (δ : DE) (o : Option Int) : Prop := ∃ t, PO X e t ∧ ∀ (σ : L2.St) (H : Hp) (Q : Option Int → Hp → Prop), F.ok H → StD X.K F.S H σ δ → (∀ H', Xt F.C H H' → F.ok H' → Q o H') → t σ H Q
theorem vo_none : VO F X none δ none := ⟨_, po_none, fun σ H Q o s q => q H (.refl H) o⟩
theorem vo_some (he : VD F X e δ (.int i)) : VO F X (some e) δ (some i) := ⟨_, po_some (pe_sem X e), fun σ H Q o s q => he σ H _ o s fun v H1 d e1 o1 n1 kd => by
  subst kd
  exact ⟨i, n1.sc rfl, q H1 e1 o1⟩⟩
def cutD (ds : List PyData) (lo hi : Option Int) : List PyData := (ds.drop (HT.sIx ds.length 0 lo)).take (HT.sIx ds.length ds.length hi - HT.sIx ds.length 0 lo)
theorem DnAll.cut {K : PySem.W.Frag} {S : AS} {H : Hp} {vs : List V} {ds : List PyData} (h : DnAll K S H vs ds) (lo hi : Option Int) : DnAll K S H (cutV vs lo hi) (cutD ds lo hi) := by
  unfold cutV cutD
  rw [h.length]
  exact (h.drop _).take _
variable {lo hi : Option Expr} {l u : Option Int} {p2 : Pos}
/-- a tuple's slice that isn't the whole -/
theorem vd_slT (he : VD F X e δ (.tuple ds)) (hl : VO F X lo δ l) (hu : VO F X hi δ u) (hn : ¬ (HT.sIx ds.length 0 l = 0 ∧ HT.sIx ds.length ds.length u = ds.length)) : VD F X (.Subscript e (.Slice lo hi none p2) pos) δ (.tuple (cutD ds l u)) := fun σ H Q o s q => by
  obtain ⟨tl, h1, h2⟩ := hl
  obtain ⟨tu, h3, h4⟩ := hu
  refine (pe_slice sl_tupF (pe_sem X e) h1 h3).sem (he σ H _ o s fun v H1 d e1 o1 n1 kd => h2 σ H1 _ o1 (o.all s e1) fun H2 e2 o2 => h4 σ H2 _ o2 (o.all s (e1.trans e2)) fun H3 e3 o3 => ?_)
  subst kd
  have n3 := Dn.mono F.sub (e2.trans e3) _ _ n1
  cases n3 with
  | tup sq al =>
    refine ⟨_, _, rfl, sq.sq, by rw [al.length]; exact hn, fun p ob hd hp => q _ _ _ (((e1.trans e2).trans e3).trans (.new hp)) (o3.mono (.new hp)) (.tup (.inl ⟨o3.fresh hp, ob, hd, upd_same⟩) (Dn.monoAll F.sub (.new hp) _ _ (al.cut l u))) rfl⟩
end
end
end Dl
set_option Elab.async false
set_option linter.all false
set_option maxRecDepth 100000
set_option maxHeartbeats 4000000
namespace Dl
open PySem PySem.Spec PyProof.Rows L2
/-! ### calls of built-ins -/
section
variable {F : Fm} {X : Cx} {δ : DE} {k : PyData → Prop} {e a b c : Expr} {es : List Expr} {pos p : Pos} {x : Str} {d z : PyData} {ds : List PyData} {i j m : Int}
def CallD (K : PySem.W.Frag) (r : List V → Hp → VK → Prop) (ds : List PyData) (z : PyData) : Prop := ∀ (S : AS) (H : Hp) (vs : List V) (Q : VK), (∀ a, S a → H a ≠ none) → DnAll K S H vs ds → (∀ v H', Xt C0 H H' → Dn K S H' v z → Q v H') → r vs H Q
theorem ve_cb {r : List V → Hp → VK → Prop} (he : PE X e (tCB r (semA X es))) (ha : VA F X es δ fun ds => ∃ z, CallD X.K r ds z ∧ k z) : VE F X e δ k := fun σ H Q o s q =>
  he.sem (ha σ H _ o s fun vs H1 ds e1 o1 n1 ⟨z, hc, kz⟩ => hc F.S H1 vs Q o1.2 n1 fun v H' e3 nz => q v H' z (e1.trans e3.of0) (o1.mono e3) nz kz)
theorem ve_callB {id : String} {r : List V → Hp → VK → Prop} (hc : CallR X (.builtin id) r) (hm : X.mg x = none) (hv : bootBuiltins x = some (.builtin id)) (ha : VA F X (e :: es) δ fun ds => ∃ z, CallD X.K r ds z ∧ k z) (hg : Gl X x := by rfl) (hn : x ≠ "__name__" := by decide) (hdb : (x == ("__debug__" : Str)) = false := by decide)
    (he : starEach (e :: es) X.env = (false, eval e X.env) :: starEach es X.env := by rfl) (hpl : (backTo pos (starEach es X.env)).any (·.1) = false := by rfl) : VE F X (.Call (.Name x p) (e :: es) [] pos) δ k := ve_cb (pe_callB hc hg hm hv (pa_sem X _) hn hdb he hpl) ha
theorem ve_callTy {T : String} {r : List V → Hp → VK → Prop} (hc : CallR X (.type T) r) (hm : X.mg x = none) (hv : bootBuiltins x = some (.type T)) (ha : VA F X (e :: es) δ fun ds => ∃ z, CallD X.K r ds z ∧ k z) (hg : Gl X x := by rfl) (hn : x ≠ "__name__" := by decide) (hdb : (x == ("__debug__" : Str)) = false := by decide)
    (he : starEach (e :: es) X.env = (false, eval e X.env) :: starEach es X.env := by rfl) (hpl : (backTo pos (starEach es X.env)).any (·.1) = false := by rfl) : VE F X (.Call (.Name x p) (e :: es) [] pos) δ k := ve_cb (pe_callTy hc hg hm hv (pa_sem X _) hn hdb he hpl) ha
theorem vd_len (hm : X.mg "len" = none) (ha : VD F X a δ d) (hd : seqOf d = some ds) (hg : Gl X "len" := by rfl) (he : starEach [a] X.env = [(false, eval a X.env)] := by rfl) : VD F X (.Call (.Name "len" p) [a] [] pos) δ (.int (ds.length : Int)) :=
  ve_callB call_len_seq hm PySem.boot_len (VA.to (vl_cons ha vl_nil he) ⟨_, fun S H vs Q _ n q => by
    cases n with
    | cons n1 n2 =>
      cases n2
      obtain ⟨p, xs, rfl, hs, al⟩ := n1.seq hd
      refine ⟨p, xs, rfl, hs, ?_⟩
      rw [al.length]
      exact q _ H (.refl H) (.int _), rfl⟩) hg (by decide) (by decide) he rfl
theorem abs_if (i : Int) : (if i < 0 then -i else i) = (i.natAbs : Int) := by split <;> omega
theorem min_if (i j : Int) : (if j < i then j else i) = min i j := by split <;> omega
theorem vd_abs (hm : X.mg "abs" = none) (ha : VD F X a δ (.int i)) (hg : Gl X "abs" := by rfl) (he : starEach [a] X.env = [(false, eval a X.env)] := by rfl) : VD F X (.Call (.Name "abs" p) [a] [] pos) δ (.int (i.natAbs : Int)) :=
  ve_callB call_abs hm (by decide +kernel) (VA.to (vl_cons ha vl_nil he) ⟨_, fun S H vs Q _ n q => by
    cases n with
    | cons n1 n2 =>
      cases n2
      cases n1
      refine ⟨i, rfl, ?_⟩
      rw [abs_if]
      exact q _ H (.refl H) (.int _), rfl⟩) hg (by decide) (by decide) he rfl
theorem vd_int1 (hm : X.mg "int" = none) (ha : VD F X a δ (.int i)) (hg : Gl X "int" := by rfl) (he : starEach [a] X.env = [(false, eval a X.env)] := by rfl) : VD F X (.Call (.Name "int" p) [a] [] pos) δ (.int i) :=
  ve_callTy call_int1 hm (by decide +kernel) (VA.to (vl_cons ha vl_nil he) ⟨_, fun S H vs Q _ n q => by
    cases n with
    | cons n1 n2 =>
      cases n2
      cases n1
      exact .inl ⟨i, rfl, q _ H (.refl H) (.int _)⟩, rfl⟩) hg (by decide) (by decide) he rfl
theorem vd_min2 (hcm : X.calm = true) (hm : X.mg "min" = none) (ha : VD F X a δ (.int i)) (hb : VD F X b δ (.int j)) (hg : Gl X "min" := by rfl) (he : starEach [a, b] X.env = (false, eval a X.env) :: starEach [b] X.env := by rfl) (he2 : starEach [b] X.env = [(false, eval b X.env)] := by rfl) : VD F X (.Call (.Name "min" p) [a, b] [] pos) δ (.int (min i j)) :=
  ve_callB (call_min2 hcm) hm (by decide +kernel) (VA.to (vl_cons ha (vl_cons hb vl_nil he2) he) ⟨_, fun S H vs Q _ n q => by
    cases n with
    | cons n1 n2 =>
      cases n2 with
      | cons n2 n3 =>
        cases n3
        cases n1
        cases n2
        refine ⟨i, j, rfl, ?_⟩
        rw [min_if]
        exact q _ H (.refl H) (.int _), rfl⟩) hg (by decide) (by decide) he (by rw [he2]; rfl)
theorem nuMin2_int (i j : Int) : nuMin2 (.int i) (.int j) = some (.int (min i j)) := by
  have e : nuLt (.int j) (.int i) = some (decide (j < i)) := rfl
  unfold nuMin2
  rw [e]
  by_cases h : j < i
  · rw [decide_eq_true h, show min i j = j by omega]; rfl
  · rw [decide_eq_false h, show min i j = i by omega]; rfl
theorem nuMin3_int (i j m : Int) : nuMin3 (.int i) (.int j) (.int m) = some (.int (min (min i j) m)) := by
  unfold nuMin3
  rw [nuMin2_int]
  exact nuMin2_int _ _
theorem vd_min3 (hcm : X.calm = true) (hm : X.mg "min" = none) (ha : VD F X a δ (.int i)) (hb : VD F X b δ (.int j)) (hc : VD F X c δ (.int m)) (hg : Gl X "min" := by rfl) (he : starEach [a, b, c] X.env = (false, eval a X.env) :: starEach [b, c] X.env := by rfl) (he2 : starEach [b, c] X.env = (false, eval b X.env) :: starEach [c] X.env := by rfl) (he3 : starEach [c] X.env = [(false, eval c X.env)] := by rfl) : VD F X (.Call (.Name "min" p) [a, b, c] [] pos) δ (.int (min (min i j) m)) :=
  ve_callB (call_min3Nu hcm) hm (by decide +kernel) (VA.to (vl_cons ha (vl_cons hb (vl_cons hc vl_nil he3) he2) he) ⟨_, fun S H vs Q _ n q => by
    cases n with
    | cons n1 n2 =>
      cases n2 with
      | cons n2 n3 =>
        cases n3 with
        | cons n3 n4 =>
          cases n4
          cases n1
          cases n2
          cases n3
          exact ⟨_, _, _, _, rfl, nuMin3_int i j m, q _ H (.refl H) (.int _)⟩, rfl⟩) hg (by decide) (by decide) he (by rw [he2, he3]; rfl)
theorem vd_bits {apos : Pos} (ha : VD F X a δ (.int i)) (hbase : attributeBase a "bit_length" X.env (eval a X.env) = eval a X.env := by rfl) (hline : (apos.endLine == pos.line) = true := by rfl) : VD F X (.Call (.Attribute a "bit_length" apos) [] [] pos) δ (.int (Builtin.Int.intBits i : Nat)) := fun σ H Q o s q =>
  (pe_bits (pe_sem X a) hbase hline).sem (ha σ H _ o s fun v H1 d e1 o1 n1 kd => by
    subst kd
    exact ⟨i, n1.sc rfl, q _ H1 _ e1 o1 (.int _) rfl⟩)
/-! isinstance -/
def tyD : PyData → String
  | .none => "NoneType"
  | .bool _ => "bool"
  | .int _ => "int"
  | .str _ => "str"
  | .list _ => "list"
  | .tuple _ => "tuple"
  | .dict _ => "dict"
theorem Dn.tyx {K : PySem.W.Frag} {S : AS} {H : Hp} {v : V} {d : PyData} (h : Dn K S H v d) : TyX K H v (.type (tyD d)) := by
  cases h with
  | non => exact .base .non
  | bl b => exact .base (.bl b)
  | int i => exact .base (.int i)
  | str y => exact .base (.str y)
  | lst s _ =>
    rcases s.sq with (s | ⟨o, s⟩) | ⟨o, its, n, hk, hc, _⟩
    · exact .base (.lst s)
    · exact .base (.frz s)
    · exact .kList hk hc
  | tup s _ =>
    rcases s.sq with (s | ⟨o, s⟩) | ⟨o, its, n, hk, hc, _⟩
    · exact .base (.tup s)
    · exact .fTuple s
    · exact .kTuple hk hc
theorem vd_isi {T : Str} {T' : String} {pT : Pos} {t : Bool} (hm : X.mg "isinstance" = none) (hT : X.mg T = none) (hvT : bootBuiltins T = some (.type T')) (he : VD F X e δ d) (hb : kitB (tyD d) T' = some t) (hg : Gl X "isinstance" := by rfl) (hgT : Gl X T := by rfl) (hnT : T ≠ "__name__" := by decide) (hdT : (T == ("__debug__" : Str)) = false := by decide)
    (hs : starEach [e, .Name T pT] X.env = (false, eval e X.env) :: starEach [.Name T pT] X.env := by rfl) (hs2 : starEach [.Name T pT] X.env = [(false, eval (.Name T pT) X.env)] := by rfl) : VD F X (.Call (.Name "isinstance" p) [e, .Name T pT] [] pos) δ (.bool t) := fun σ H Q o s q =>
  (pe_callB call_isi hg hm boot_isinstance (pa_cons (pe_sem X e) (pa_cons (pe_bltn (v := .ty T') hgT hT hvT rfl hnT hdT) pa_nil hs2) hs) (by decide) (by decide) hs (by rw [hs2]; rfl)).sem
    (he σ H _ o s fun v H1 d' e1 o1 n1 kd => by
      subst kd
      exact ⟨v, .ty T', _, _, t, rfl, .ty T', n1.tyx, kit_ty hb, q _ H1 _ e1 o1 (.bl _) rfl⟩)
def isIntD : PyData → Bool
  | .int _ => true
  | .bool _ => true
  | _ => false
def isBoolD : PyData → Bool
  | .bool _ => true
  | _ => false
def isStrD : PyData → Bool
  | .str _ => true
  | _ => false
def isTupD : PyData → Bool
  | .tuple _ => true
  | _ => false
theorem kit_int (d : PyData) : kitB (tyD d) "int" = some (isIntD d) := by cases d <;> (dsimp only [tyD, isIntD]; decide +kernel)
theorem kit_bool (d : PyData) : kitB (tyD d) "bool" = some (isBoolD d) := by cases d <;> (dsimp only [tyD, isBoolD]; decide +kernel)
theorem kit_str (d : PyData) : kitB (tyD d) "str" = some (isStrD d) := by cases d <;> (dsimp only [tyD, isStrD]; decide +kernel)
theorem kit_tuple (d : PyData) : kitB (tyD d) "tuple" = some (isTupD d) := by cases d <;> (dsimp only [tyD, isTupD]; decide +kernel)
end
/-! ### defs -/
/-- the promise: called with data ds of which A ds d holds, it hands back d; nothing that stood is changed -/
def spD (K : PySem.W.Frag) (A : List PyData → PyData → Prop) : Sp := fun vs H Q _ => ∃ (S : AS) (ds : List PyData) (d : PyData), (∀ a, S a → H a ≠ none) ∧ DnAll K S H vs ds ∧ A ds d ∧ ∀ v H', Xt C0 H H' → Dn K S H' v d → Q v H'
/-- a def by its name, with what a caller wants of it -/
structure Df (P : Program) (w : World) (K : PySem.W.Frag) (mg : Str → Option Value) (base : Heap) (x : Str) (k : Nat) (sp : Sp) : Prop where
  ex : ∃ (f : Addr) (fd : FuncData) (ps : List Str), FnOk P w K mg base (L2.CX P w) k f fd ps sp ∧ mg x = some (.ref f) ∧ PySem.W.keepIn K (.ref f) = true ∧ Binds K fd ps []
/-- where a def stands -/
structure At (K : PySem.W.Frag) (mg : Str → Option Value) (x : Str) (st : Stmt) (ps : List Str) : Prop where
  ex : ∃ (f : Addr) (fd : FuncData), Fun K x x st f fd ∧ mg x = some (.ref f) ∧ Binds K fd ps []
section
variable {F : Fm} {X : Cx} {δ : DE} {k : PyData → Prop} {e a b c : Expr} {es : List Expr} {pos p : Pos} {x : Str} {d z : PyData} {ds : List PyData}
theorem ve_call {A : List PyData → PyData → Prop} {j n : Nat} (G : Df X.prog X.w X.K X.mg X.base x j (spD X.K A)) (hr : Room n X.A) (hj : j ≤ n) (ha : VA F X (e :: es) δ fun ds => ∃ z, A ds z ∧ k z) (hg : Gl X x := by rfl) (hdb : (x == ("__debug__" : Str)) = false := by decide)
    (he : starEach (e :: es) X.env = (false, eval e X.env) :: starEach es X.env := by rfl) (hpl : (backTo pos (starEach es X.env)).any (·.1) = false := by rfl) : VE F X (.Call (.Name x p) (e :: es) [] pos) δ k := fun σ H Q o s q => by
  obtain ⟨f, fd, ps, G1, G2, G3, G4⟩ := G.ex
  refine (pe_call G1 (hr.mono hj) hg G2 G3 G4 .nil passL (pa_sem X _) hdb he hpl).sem ?_
  refine ha σ H _ o s fun vs H1 ds e1 o1 n1 ⟨z, hA, kz⟩ => ?_
  show spD X.K A (vs ++ []) H1 Q E0
  rw [List.append_nil]
  exact ⟨F.S, ds, z, o1.2, n1, hA, fun v H' e2 n2 => q v H' z (e1.trans e2.of0) (o1.mono e2) n2 kz⟩
theorem vd_call {A : List PyData → PyData → Prop} {j n : Nat} (G : Df X.prog X.w X.K X.mg X.base x j (spD X.K A)) (hr : Room n X.A) (hj : j ≤ n) (ha : VL F X (e :: es) δ ds) (hA : A ds z) (hg : Gl X x := by rfl) (hdb : (x == ("__debug__" : Str)) = false := by decide)
    (he : starEach (e :: es) X.env = (false, eval e X.env) :: starEach es X.env := by rfl) (hpl : (backTo pos (starEach es X.env)).any (·.1) = false := by rfl) : VD F X (.Call (.Name x p) (e :: es) [] pos) δ z := ve_call G hr hj (ha.to ⟨z, hA, rfl⟩) hg hdb he hpl
theorem vd_call0 {A : List PyData → PyData → Prop} {j n : Nat} (G : Df X.prog X.w X.K X.mg X.base x j (spD X.K A)) (hr : Room n X.A) (hj : j ≤ n) (hA : A [] z) (hg : Gl X x := by rfl) (hdb : (x == ("__debug__" : Str)) = false := by decide) : VD F X (.Call (.Name x p) [] [] pos) δ z := fun σ H Q o s q => by
  obtain ⟨f, fd, ps, G1, G2, G3, G4⟩ := G.ex
  refine (pe_call0 G1 (hr.mono hj) hg G2 G3 G4 .nil passL hdb).sem ?_
  show spD X.K A ([] ++ []) H Q E0
  exact ⟨F.S, [], z, o.2, .nil, hA, fun v H' e2 n2 => q v H' z e2.of0 (o.mono e2) n2 rfl⟩
end
/-! ### statements -/
section
variable {F : Fm} {X : Cx} {δ : DE} {R : Out} {e : Expr} {rest body orelse : List Stmt} {pos : Pos}
theorem vs_nil (h : R.nx δ) : VS F X [] δ R := fun σ H D o s q => pss_nil.sem (show D.nx σ H from q.nx σ H δ (.refl H) o s h)
theorem vs_by {st : Stmt} {t : TS} (h : PS X st t) (hq : ∀ (σ : L2.St) (H : Hp) (D : Ends), F.ok H → StD X.K F.S H σ δ → EndsOk F X.K H R D → t { D with nx := semSs X rest D } σ H) : VS F X (st :: rest) δ R := fun σ H D o s q =>
  (pss_cons h (pss_sem X rest)).sem (hq σ H D o s q)
theorem vs_asg (i : Nat) {x : Str} {px : Pos} (he : VE F X e δ fun d => VS F X rest (δ.set i (some (.dat d))) R) (hN : X.N.Nodup) (hi : X.N[i]? = some x := by rfl) (hx : Loc X.env.scope x := by first | exact Or.inl rfl | exact Or.inr rfl) (hs : swapsWith e (some (.Name x px)) pos.line X.env = pure false := by rfl)
    (hf : X.fn x = true ∨ X.env.scope.names.lookup x = some .local := by first | exact .inl rfl | exact .inr rfl) : VS F X (.Assign [.Name x px] e pos :: rest) δ R :=
  vs_by (ps_set hN hi hx (pe_sem X e) hs hf) fun σ H D o s q => he σ H _ o s fun v H1 d e1 o1 n1 kd => kd _ H1 D o1 ((o.all s e1).setD i n1) (q.mono e1)
theorem vs_ret (he : VE F X e δ R.rt) : VS F X (.Return (some e) pos :: rest) δ R := vs_by (ps_ret (pe_sem X e)) fun σ H D o s q => he σ H _ o s fun v H1 d e1 o1 n1 kd => q.rt v H1 d e1 o1 n1 kd
theorem vs_if {c : Expr} (hc : VT F X c δ fun b => if b = true then VS F X body δ { R with nx := fun δ' => VS F X rest δ' R } else VS F X orelse δ { R with nx := fun δ' => VS F X rest δ' R }) : VS F X (.If c body orelse pos :: rest) δ R :=
  vs_by (ps_if (pt_sem X c) (pss_sem X body) (pss_sem X orelse)) fun σ H D o s q => hc σ H _ o s fun b H1 e1 o1 kb => by
    have q1 := q.mono e1
    have q2 : EndsOk F X.K H1 { R with nx := fun δ' => VS F X rest δ' R } { D with nx := semSs X rest D } :=
      ⟨fun σ' H' δ' e2 o2 s2 h => h σ' H' D o2 s2 (q1.mono e2), q1.bk, q1.ct, q1.rt⟩
    cases b with
    | true =>
      have kb' : VS F X body δ { R with nx := fun δ' => VS F X rest δ' R } := by simpa using kb
      exact kb' σ H1 _ o1 (o.all s e1) q2
    | false =>
      have kb' : VS F X orelse δ { R with nx := fun δ' => VS F X rest δ' R } := by simpa using kb
      exact kb' σ H1 _ o1 (o.all s e1) q2
/-- if c: body, c known to be worth t -/
theorem vs_ifB {c : Expr} {t : Bool} (hc : VB F X c δ t) (h1 : t = true → VS F X body δ { R with nx := fun δ' => VS F X rest δ' R }) (h2 : t = false → VS F X orelse δ { R with nx := fun δ' => VS F X rest δ' R }) : VS F X (.If c body orelse pos :: rest) δ R := vs_if (hc.to (by
  cases t with
  | true => simpa using h1 rfl
  | false => simpa using h2 rfl))
/-- a, b = e1, e2 -/
theorem vs_par (i j : Nat) {x y : Str} {a b : Expr} {px py pt : Pos} {kt k2 pt2} (ha : VA F X [a, b] δ fun ds => ∃ d1 d2, ds = [d1, d2] ∧ VS F X rest ((δ.set i (some (.dat d1))).set j (some (.dat d2))) R) (hN : X.N.Nodup)
    (hw : swappedStores [.Tuple [.Name x px, .Name y py] kt pt] (.Tuple [a, b] k2 pt2) X.env = pure (some [x, y]) := by rfl) (hc : X.calm = true := by rfl) (hi : X.N[i]? = some x := by rfl) (hj : X.N[j]? = some y := by rfl) (hij : i ≠ j := by decide)
    (hx : X.env.scope.names.lookup x = some .local := by rfl) (hy : X.env.scope.names.lookup y = some .local := by rfl) (hs : swapsWithSole [.Tuple [.Name x px, .Name y py] kt pt] (.Tuple [a, b] k2 pt2) pos.line X.env = pure false := by rfl) :
    VS F X (.Assign [.Tuple [.Name x px, .Name y py] kt pt] (.Tuple [a, b] k2 pt2) pos :: rest) δ R :=
  vs_by (ps_par hc hN hi hj hij hx hy (pa_sem X _) hw hs) fun σ H D o s q => ha σ H _ o s fun vs H1 ds e1 o1 n1 ⟨d1, d2, e2, kd⟩ => by
    subst e2
    cases n1 with
    | cons n1 n2 =>
      cases n2 with
      | cons n2 n3 =>
        cases n3
        exact ⟨_, _, rfl, kd _ H1 D o1 (((o.all s e1).setD i n1).setD j n2) (q.mono e1)⟩
/-- names as a target's items -/
def setAll : DE → List Nat → List PyData → DE
  | δ, i :: is, d :: ds => setAll (δ.set i (some (.dat d))) is ds
  | δ, _, _ => δ
structure PN (X : Cx) (ts : List Expr) (is : List Nat) : Prop where
  run : ∃ t, PGs X ts t ∧ ∀ (F : Fm) (δ : DE) (σ : L2.St) (H : Hp) (vs : List V) (ds : List PyData) (Q : L2.St → Hp → Prop), StD X.K F.S H σ δ → DnAll X.K F.S H vs ds → ds.length = is.length → (∀ σ', StD X.K F.S H σ' (setAll δ is ds) → Q σ' H) → t vs σ H Q
theorem pn_nil : PN X [] [] := ⟨gNil, pgs_nil, fun F δ σ H vs ds Q s n hl q => by
  cases ds with
  | nil => cases n; exact ⟨rfl, q σ s⟩
  | cons d ds => simp at hl⟩
theorem pn_cons {x : Str} {px : Pos} {ts : List Expr} {is : List Nat} (i : Nat) (h : PN X ts is) (hN : X.N.Nodup) (hi : X.N[i]? = some x := by rfl) (hx : Loc X.env.scope x := by first | exact Or.inl rfl | exact Or.inr rfl) (hf : X.fn x = true ∨ X.env.scope.names.lookup x = some .local := by first | exact .inl rfl | exact .inr rfl)
    (hs : (assignEach (.Name x px :: ts) X.env).map (·.2) = assign (.Name x px) X.env :: (assignEach ts X.env).map (·.2) := by rfl) : PN X (.Name x px :: ts) (i :: is) := by
  obtain ⟨t, h1, h2⟩ := h.run
  refine ⟨gCons (gName i) t, pgs_cons (pg_name hN hi hx hf) h1 hs, fun F δ σ H vs ds Q s n hl q => ?_⟩
  cases ds with
  | nil => simp at hl
  | cons d ds =>
    cases n with
    | cons n1 n2 => exact ⟨_, _, rfl, h2 F _ _ H _ ds Q (s.setD i n1) n2 (by simpa using hl) q⟩
/-- a, b, .. = e, e a tuple -/
theorem vs_unp {ts : List Expr} {k1 : Nat} {pt : Pos} {is : List Nat} (h : PN X ts is) (he : VE F X e δ fun d => ∃ ds, d = .tuple ds ∧ ds.length = is.length ∧ VS F X rest (setAll δ is ds) R) (hn : (assignEach ts X.env).length = is.length := by rfl) (hc : X.calm = true := by rfl) (hst : (assignEach ts X.env).findIdx? (·.1) = none := by rfl)
    (hs : swapsWithSole [.Tuple ts k1 pt] e pos.line X.env = pure false := by rfl) (hw : swappedStores [.Tuple ts k1 pt] e X.env = pure none := by rfl) (h1 : (assignEach [.Tuple ts k1 pt] X.env).map (·.2) = [assign (.Tuple ts k1 pt) X.env] := by rfl) :
    VS F X (.Assign [.Tuple ts k1 pt] e pos :: rest) δ R := by
  obtain ⟨t, g1, g2⟩ := h.run
  exact vs_by (ps_asg (pe_sem X e) (pg_tup hc g1 hn hst) hs hw h1) fun σ H D o s q => he σ H _ o s fun v H1 d e1 o1 n1 ⟨ds, ed, hl, kd⟩ => by
    subst ed
    cases n1 with
    | tup sq al => exact ⟨_, _, rfl, sq.sq, by rw [al.length, hl], g2 F δ σ H1 _ ds _ (o.all s e1) al hl fun σ' s' => kd σ' H1 D o1 s' (q.mono e1)⟩
/-- while: I with its measure -/
theorem vs_while {c : Expr} (I : Nat → DE → Prop) (h0 : ∃ m, I m δ) (ht : ∀ m δ', I m δ' → VT F X c δ' fun b => if b = true then VS F X body δ' { R with nx := fun δ2 => ∃ m', m' < m ∧ I m' δ2, ct := fun δ2 => ∃ m', m' < m ∧ I m' δ2, bk := fun δ2 => VS F X rest δ2 R } else VS F X rest δ' R)
    (hp : PassesOwn (model X.prog X.w) X.A X.env X.xe) : VS F X (.While c body [] pos :: rest) δ R :=
  vs_by (ps_while hp (pt_sem X c) (pss_sem X body)) fun σ H D o s q => by
    refine ⟨fun m σ' H' => Xt F.C H H' ∧ F.ok H' ∧ ∃ δ', StD X.K F.S H' σ' δ' ∧ I m δ', ?_, ?_⟩
    · obtain ⟨m, hm⟩ := h0
      exact ⟨m, .refl H, o, δ, s, hm⟩
    · rintro m σ' H' ⟨e1, o1, δ', s1, hI⟩
      refine ht m δ' hI σ' H' _ o1 s1 fun b H2 e2 o2 kb => ?_
      have q2 := (q.mono e1).mono e2
      cases b with
      | true =>
        have kb' : VS F X body δ' { R with nx := fun δ2 => ∃ m', m' < m ∧ I m' δ2, ct := fun δ2 => ∃ m', m' < m ∧ I m' δ2, bk := fun δ2 => VS F X rest δ2 R } := by simpa using kb
        refine ⟨fun σ2 H3 => ∃ m', m' < m ∧ Xt F.C H H3 ∧ F.ok H3 ∧ ∃ δ', StD X.K F.S H3 σ2 δ' ∧ I m' δ', fun σ2 H3 ⟨m', h1, h2⟩ => ⟨m', h1, h2⟩, ?_⟩
        exact kb' σ' H2 _ o2 (s1.mono F.sub e2)
          ⟨fun σ3 H3 δ3 e3 o3 s3 ⟨m', h1, h2⟩ => ⟨m', h1, (e1.trans e2).trans e3, o3, δ3, s3, h2⟩, fun σ3 H3 δ3 e3 o3 s3 h => h σ3 H3 D o3 s3 (q2.mono e3), fun σ3 H3 δ3 e3 o3 s3 ⟨m', h1, h2⟩ => ⟨m', h1, (e1.trans e2).trans e3, o3, δ3, s3, h2⟩, q2.rt⟩
      | false =>
        have kb' : VS F X rest δ' R := by simpa using kb
        exact kb' σ' H2 D o2 (s1.mono F.sub e2) q2
end
/-! ### what is walked -/
structure Walks (F : Fm) (K : PySem.W.Frag) (J : It) (ds : List PyData) (H : Hp) : Prop where
  go : ∀ i H', Xt F.C H H' → i < ds.length → J.go i H'
  yld : ∀ (S' : AS), (∀ a o, F.C a o → S' a ∨ Tb o) → (∀ a, H a ≠ none → S' a → F.S a) → ∀ i H' x H3, Xt F.C H H' → J.yld i H' x H3 → Xt C0 H' H3 ∧ ∀ d, ds[i]? = some d → Dn K S' H3 x d
  stop : ∀ H', Xt F.C H H' → J.stop ds.length H'
def semI (X : Cx) (tg iter : Expr) : TI := fun σ H R => ∀ (pins : List (Addr × Obj)) (s : Shared), Inv X pins σ H s → wpAny (model X.prog X.w) X.A (eval iter X.env) (fun v s1 => wpAny (model X.prog X.w) X.A (pyIter v) (PIE X pins σ tg R) X.xe s1) X.xe s
theorem pi_sem (X : Cx) (tg iter : Expr) : PI X tg iter (semI X tg iter) := ⟨fun pins s σ H R I h => h pins s I⟩
theorem _root_.L2.PI.sem {X : Cx} {tg iter : Expr} {t : TI} (h : PI X tg iter t) {σ : L2.St} {H : Hp} {R : It → Hp → Prop} (q : t σ H R) : semI X tg iter σ H R := fun pins s I => h.run pins s σ H R I q
def VI (F : Fm) (X : Cx) (tg iter : Expr) (δ : DE) (k : List PyData → Prop) : Prop := ∀ (σ : L2.St) (H : Hp) (R : It → Hp → Prop), F.ok H → StD X.K F.S H σ δ →
  (∀ (J : It) (H' : Hp) (ds : List PyData), Xt F.C H H' → F.ok H' → Walks F X.K J ds H' → k ds → R J H') → semI X tg iter σ H R
section
variable {F : Fm} {X : Cx} {δ : DE} {R : Out} {e tg iter : Expr} {rest body : List Stmt} {pos p : Pos} {k : List PyData → Prop}
theorem vi_tup (he : VE F X e δ fun d => ∃ ds, d = .tuple ds ∧ k ds) : VI F X tg e δ k := fun σ H R o s q =>
  (pi_tup (pe_sem X e)).sem (he σ H _ o s fun v H1 d e1 o1 n1 ⟨ds, ed, kd⟩ => by
    subst ed
    cases n1 with
    | @tup a xs _ sq al =>
      refine ⟨a, rfl, ⟨xs, sq.sq⟩, q _ H1 ds e1 o1 ⟨fun i H' e2 hi => ?_, fun S' hC hS i H' x H3 e2 y => ?_, fun H' e2 => ?_⟩ kd⟩
      · have hx : i < xs.length := by rw [al.length]; exact hi
        exact ⟨xs, xs[i], (sq.mono F.sub e2).sq, by simp [hx]⟩
      · obtain ⟨e3, y⟩ := y
        subst e3
        refine ⟨.refl _, fun d hd => ?_⟩
        obtain ⟨v, h1, h2⟩ := (Dn.monoAll hC e2 _ _ (Dn.lessAll hS _ _ al)).get hd
        have := (y xs ((sq.mono F.sub e2).sq)).symm.trans h1
        cases this
        exact h2
      · exact ⟨xs, (sq.mono F.sub e2).sq, by rw [al.length]; exact Nat.le_refl _⟩)
end
/-! ### list comprehensions -/
/-- what is made of the items: those that fail the test are left out -/
inductive LcR (b : PyData → Bool) (P : PyData → PyData → Prop) : List PyData → List PyData → Prop
  | nil : LcR b P [] []
  | skip {x : PyData} {xs ys : List PyData} : b x = false → LcR b P xs ys → LcR b P (x :: xs) ys
  | take {x y : PyData} {xs ys : List PyData} : b x = true → P x y → LcR b P xs ys → LcR b P (x :: xs) (y :: ys)
theorem LcR.snoc_skip {b : PyData → Bool} {P : PyData → PyData → Prop} {x : PyData} (hx : b x = false) : ∀ {xs ys : List PyData}, LcR b P xs ys → LcR b P (xs ++ [x]) ys
  | _, _, .nil => .skip hx .nil
  | _, _, .skip h t => .skip h (t.snoc_skip hx)
  | _, _, .take h p t => .take h p (t.snoc_skip hx)
theorem LcR.snoc_take {b : PyData → Bool} {P : PyData → PyData → Prop} {x y : PyData} (hx : b x = true) (hp : P x y) : ∀ {xs ys : List PyData}, LcR b P xs ys → LcR b P (xs ++ [x]) (ys ++ [y])
  | _, _, .nil => .take hx hp .nil
  | _, _, .skip h t => .skip h (t.snoc_take hx hp)
  | _, _, .take h p t => .take h p (t.snoc_take hx hp)
theorem LcR.len {b : PyData → Bool} {P : PyData → PyData → Prop} : ∀ {xs ys : List PyData}, LcR b P xs ys → ys.length ≤ xs.length
  | _, _, .nil => Nat.le_refl _
  | _, _, .skip _ t => Nat.le_succ_of_le t.len
  | _, _, .take _ _ t => Nat.succ_le_succ t.len
theorem LcR.det {b : PyData → Bool} {g : PyData → PyData} : ∀ {xs ys : List PyData}, LcR b (fun x y => y = g x) xs ys → ys = (xs.filter b).map g
  | _, _, .nil => rfl
  | _, _, .skip h t => by simp [h, t.det]
  | _, _, .take h p t => by simp [h, p, t.det]
theorem LcR.none {P : PyData → PyData → Prop} : ∀ {xs ys : List PyData}, LcR (fun _ => false) P xs ys → ys = []
  | _, _, .nil => rfl
  | _, _, .skip _ t => t.none
  | _, _, .take h _ _ => by cases h
theorem LcR.all {P : PyData → PyData → Prop} : ∀ {xs ys : List PyData}, LcR (fun _ => true) P xs ys → ys.length = xs.length ∧ ∀ y ∈ ys, ∃ x ∈ xs, P x y
  | _, _, .nil => ⟨rfl, fun _ h => by cases h⟩
  | _, _, .skip h _ => by cases h
  | _, _, .take _ p t => by
    obtain ⟨h1, h2⟩ := t.all
    refine ⟨congrArg (· + 1) h1, fun y hy => ?_⟩
    rcases List.mem_cons.mp hy with rfl | hy
    · exact ⟨_, List.mem_cons_self, p⟩
    · obtain ⟨x, h3, h4⟩ := h2 y hy
      exact ⟨x, List.mem_cons_of_mem _ h3, h4⟩
/-- the tests of a clause -/
def semTs (X : Cx) (ifs : List Expr) : TT := fun σ H Q => ∀ (pins : List (Addr × Obj)) (s : Shared), Inv X pins σ H s → wpAny (model X.prog X.w) X.A (forIn ifs true fun c r => if r = true then do let ok ← isTrue c X.env (eval c X.env); pure (ForInStep.yield ok) else pure (ForInStep.yield r)) (TP X pins σ Q) X.xe s
def VTs (F : Fm) (X : Cx) (ifs : List Expr) (δ : DE) (k : Bool → Prop) : Prop := ∀ (σ : L2.St) (H : Hp) (Q : Bool → Hp → Prop), F.ok H → StD X.K F.S H σ δ → (∀ (b : Bool) (H' : Hp), Xt F.C H H' → F.ok H' → k b → Q b H') → semTs X ifs σ H Q
theorem vts_nil {F : Fm} {X : Cx} {δ : DE} : VTs F X [] δ fun b => b = true := fun σ H Q o s q pins sh I => pts_nil.run pins sh σ H Q I (q true H (.refl H) o rfl)
section
variable {F : Fm} {X : Cx} {δ : DE} {elt iter : Expr} {ifs : List Expr} {scope : Scope} {pos : Pos} {k : PyData → Prop}
theorem ve_lc_read {x : Str} {px : Pos} (hsf : F.soft) (j : Nat) (b : PyData → Bool) (P : PyData → PyData → Prop)
    (hi : VI F X (.Name x px) iter δ fun ds => ds.length ≤ 100000 ∧
      (∀ d ∈ ds, ∀ (E : Addr) (s : Shared) (H : Hp) (C : Addr) (cl : List (Str × Addr)) (fp : List Addr), VTs (F.more E) (X.blk s H scope (compEnvC scope cl C X.env) fp) ifs (δ.set j (some (.dat d))) fun t => t = b d) ∧
      (∀ d ∈ ds, b d = true → ∀ (E : Addr) (s : Shared) (H : Hp) (C : Addr) (cl : List (Str × Addr)) (fp : List Addr), VE (F.more E) (X.blk s H scope (compEnvC scope cl C X.env) fp) elt (δ.set j (some (.dat d))) (P d)) ∧ ∀ ys, LcR b P ds ys → k (.list ys)) : ∀ (σ : L2.St) (H : Hp) (Q : VK), F.ok H → StD X.K F.S H σ δ → (∀ (v : V) (H' : Hp) (d : PyData), Xt F.C H H' → F.ok H' → Dn X.K F.S H' v d → k d → Q v H') →
    tLc (semI X (.Name x px) iter) (gName j) (fun σ H Q => ∀ (s : Shared) (H' : Hp) (C : Addr) (cl : List (Str × Addr)) (fp : List Addr), semTs (X.blk s H' scope (compEnvC scope cl C X.env) fp) ifs σ H Q) (fun σ H Q => ∀ (s : Shared) (H' : Hp) (C : Addr) (cl : List (Str × Addr)) (fp : List Addr), semE (X.blk s H' scope (compEnvC scope cl C X.env) fp) elt σ H Q) [j] σ H Q := fun σ H Q o s q =>
    (hi σ H _ o s fun J H1 ds e1 o1 wk ⟨hl, ht, he, hk⟩ D hD => by
      have s1 := o.all s e1
      refine ⟨fun i m H' => m = ds.length - i ∧ i ≤ ds.length ∧ Xt F.C H1 H' ∧ F.ok H' ∧ ∃ acc ys, H' D = some (.lst acc) ∧ DnAll X.K (F.more D).S H' acc ys ∧ LcR b P (ds.take i) ys,
        ⟨ds.length, by omega, by omega, .new hD, o1.mono (.new hD), [], [], upd_same, .nil, by rw [List.take_zero]; exact .nil⟩, ?_⟩
      rintro i m H' ⟨rfl, hi, e2, o2, acc, ys, hD', na, hr⟩
      have nD : ¬ F.S D := o1.fresh hD
      by_cases hlt : i < ds.length
      · refine .inr ⟨wk.go i H' e2 hlt, fun H3 => Xt F.C H1 H3 ∧ F.ok H3 ∧ ∃ acc ys, H3 D = some (.lst acc) ∧ DnAll X.K (F.more D).S H3 acc ys ∧ LcR b P (ds.take (i + 1)) ys, fun H3 h3 => ⟨ds.length - (i + 1), by omega, rfl, hlt, h3⟩, fun y H3 hy => ?_⟩
        have hmore : ∀ a, H1 a ≠ none → (F.more D).S a → F.S a := fun a ha z => by
          rcases z with z | z
          · exact z
          · subst z; exact absurd hD ha
        have hsub : ∀ a o, F.C a o → (F.more D).S a ∨ Tb o := fun a o z => (F.sub a o z).imp .inl id
        obtain ⟨e3, n3⟩ := wk.yld (F.more D).S hsub hmore i H' y H3 e2 hy
        have hd : ds[i]? = some ds[i] := by simp [hlt]
        have hm : ds[i] ∈ ds := List.getElem_mem hlt
        have htk : ds.take (i + 1) = ds.take i ++ [ds[i]] := by rw [List.take_add_one, hd]; rfl
        have o3 := o2.mono e3
        have e13 := e2.trans (e3.of0 (C := F.C))
        have hD3 : H3 D = some (.lst acc) := e3.k D _ (fun z => z) hD'
        have mo : (F.more D).ok H3 := o3.more (by rw [hD3]; exact fun z => by cases z)
        have sl3 : StD X.K (F.more D).S H3 σ δ := (s1.less hmore).mono hsub e13
        have sw : StD X.K (F.more D).S H3 ((wipe σ [j]).set j (some y)) (δ.set j (some (.dat ds[i]))) := by
          have e9 : (wipe σ [j]).set j (some y) = σ.set j (some y) := by
            show (σ.set j none).set j (some y) = _
            rw [List.set_set]
          rw [e9]
          exact sl3.setD j (n3 _ hd)
        have wp : wipe ((wipe σ [j]).set j (some y)) [j] = wipe σ [j] := by
          show ((σ.set j none).set j (some y)).set j none = σ.set j none
          rw [List.set_set, List.set_set]
        have keep : ∀ {H4 : Hp}, Xt F.C H3 H4 → H4 D = some (.lst acc) := fun {H4} e4 => e4.k D _ (fun z => (F.sub _ _ z).elim nD nTl) hD3
        refine ⟨wp, fun sh Hs C cl fp => ht _ hm D sh Hs C cl fp _ H3 _ mo sw fun t H4 e4 o4 et => ?_⟩
        have et' : t = b ds[i] := et
        have na4 : DnAll X.K (F.more D).S H4 acc ys := Dn.monoAll hsub (e3.of0.trans e4) _ _ na
        by_cases hb : b ds[i] = true
        · rw [et', hb]
          show (if true = true then _ else _)
          rw [if_pos rfl]
          refine fun sh Hs C cl fp => he _ hm hb D sh Hs C cl fp _ H4 _ o4 (sw.mono hsub e4) fun v H5 z e5 o5 nz hz => ?_
          refine ⟨acc, keep (e4.trans e5), ?_, ?_⟩
          · have h1 := na.length
            have h2 := hr.len
            have h3 : (ds.take i).length ≤ i := by rw [List.length_take]; omega
            exact Nat.lt_of_le_of_lt (show acc.length ≤ 100000 by omega) (by decide)
          · have eu : Xt (fun a _ => (F.more D).S a) H5 (upd H5 D (.lst (acc ++ [v]))) := .put (.inl fun _ => .inr rfl)
            refine ⟨((e13.trans e4).trans e5).put2 hD, ?_, acc ++ [v], ys ++ [z], upd_same, ?_, ?_⟩
            · exact Fm.ok.same hsf o5.less (fun a u sa hu => by
                have hne : a ≠ D := fun z => by
                  subst z
                  rcases sa with sa | sa
                  · exact nD sa
                  · rw [keep (e4.trans e5)] at hu
                    exact sa acc (Option.some.inj hu).symm
                rw [upd_ne hne]; exact hu)
            · exact DnAll.append (Dn.monoAll (S := (F.more D).S) (fun _ _ z => .inl z) eu _ _ (Dn.monoAll hsub e5 _ _ na4)) (.cons (Dn.mono (S := (F.more D).S) (fun _ _ z => .inl z) eu _ _ nz) .nil)
            · rw [htk]; exact hr.snoc_take hb hz
        · have hb' : b ds[i] = false := by simpa using hb
          rw [et', hb']
          show (if false = true then _ else _)
          rw [if_neg Bool.false_ne_true]
          exact ⟨e13.trans e4, o4.less, acc, ys, keep e4, na4, by rw [htk]; exact hr.snoc_skip hb'⟩
      · have e : i = ds.length := by omega
        subst e
        have hr' : LcR b P ds ys := by rw [List.take_length] at hr; exact hr
        refine .inl ⟨wk.stop H' e2, q _ H' _ (e1.trans e2) o2 (.lst ⟨nD, hD'⟩ (Dn.lessAll (fun a _ z => .inl z) _ _ na)) (hk ys hr')⟩)
theorem ve_lc {x : Str} {px : Pos} (j : Nat) (b : PyData → Bool) (P : PyData → PyData → Prop)
    (hi : VI F X (.Name x px) iter δ fun ds => ds.length ≤ 100000 ∧
      (∀ d ∈ ds, ∀ (E : Addr) (s : Shared) (H : Hp) (C : Addr) (cl : List (Str × Addr)) (fp : List Addr), VTs (F.more E) (X.blk s H scope (compEnvC scope cl C X.env) fp) ifs (δ.set j (some (.dat d))) fun t => t = b d) ∧
      (∀ d ∈ ds, b d = true → ∀ (E : Addr) (s : Shared) (H : Hp) (C : Addr) (cl : List (Str × Addr)) (fp : List Addr), VE (F.more E) (X.blk s H scope (compEnvC scope cl C X.env) fp) elt (δ.set j (some (.dat d))) (P d)) ∧ ∀ ys, LcR b P ds ys → k (.list ys))
    (hN : X.N.Nodup) (ok : BlkOk X.N X.env.scope scope [(x, j)]) (hg : ∀ (s : Shared) (H : Hp) (C : Addr) (cl : List (Str × Addr)) (fp : List Addr), PG (X.blk s H scope (compEnvC scope cl C X.env) fp) (.Name x px) (gName j))
    (hc : X.calm = true := by rfl) (hs : ∀ x, foldedSetIterable iter X.env x = pure x := by intro _; rfl) (hsf : F.soft := by first | exact Fm.soft_pure | assumption | exact HasRow.soft (by assumption) | exact Fm.soft_more Fm.soft_pure | exact Fm.soft_more (HasRow.soft (by assumption))) : VE F X (.ListComp elt [⟨.Name x px, iter, ifs, 0⟩] scope pos) δ k := fun σ H Q o s q =>
  (pe_lc (own := [(x, j)]) (g := gName j) (tt := fun σ H Q => ∀ (s : Shared) (H' : Hp) (C : Addr) (cl : List (Str × Addr)) (fp : List Addr), semTs (X.blk s H' scope (compEnvC scope cl C X.env) fp) ifs σ H Q) (te := fun σ H Q => ∀ (s : Shared) (H' : Hp) (C : Addr) (cl : List (Str × Addr)) (fp : List Addr), semE (X.blk s H' scope (compEnvC scope cl C X.env) fp) elt σ H Q)
    hc hN (pi_sem X _ iter) ok hg (fun s H C cl fp => ⟨fun pins sh σ H' Q I h => h s H C cl fp pins sh I⟩) (fun s H C cl fp => ⟨fun pins sh σ H' Q I h => h s H C cl fp pins sh I⟩) hs).sem
    (ve_lc_read hsf j b P hi σ H Q o s q)
end
end Dl
set_option Elab.async false
set_option linter.all false
set_option maxRecDepth 100000
set_option maxHeartbeats 4000000
namespace Dl
open PySem PySem.Spec PyProof.Rows L2
/-! ### a def by its body -/
def startD (N : List Str) (ss : List Sl) : DE := ss.map some ++ List.replicate (N.length - ss.length) none
inductive SlAll (K : PySem.W.Frag) (S : AS) (H : Hp) : List V → List Sl → Prop
  | nil : SlAll K S H [] []
  | cons {v : V} {vs : List V} {s : Sl} {ss : List Sl} : SlD K S H v s → SlAll K S H vs ss → SlAll K S H (v :: vs) (s :: ss)
theorem SlAll.length {K : PySem.W.Frag} {S : AS} {H : Hp} : ∀ {vs : List V} {ss : List Sl}, SlAll K S H vs ss → vs.length = ss.length
  | _, _, .nil => rfl
  | _, _, .cons _ t => congrArg (· + 1) t.length
theorem SlAll.get {K : PySem.W.Frag} {S : AS} {H : Hp} : ∀ {vs : List V} {ss : List Sl} {i : Nat} {s : Sl}, SlAll K S H vs ss → ss[i]? = some s → ∃ v, vs[i]? = some v ∧ SlD K S H v s
  | _, _, _, _, .nil, e => by simp at e
  | _, _, 0, _, .cons r _, e => by simp at e; subst e; exact ⟨_, rfl, r⟩
  | _, _, i + 1, s, .cons _ t, e => by
    obtain ⟨u, h1, h2⟩ := SlAll.get (i := i) (s := s) t (by simpa using e)
    exact ⟨u, by simpa using h1, h2⟩
theorem DnAll.sl {K : PySem.W.Frag} {S : AS} {H : Hp} : ∀ {vs : List V} {ds : List PyData}, DnAll K S H vs ds → SlAll K S H vs (ds.map .dat)
  | _, _, .nil => .nil
  | _, _, .cons h t => .cons h t.sl
theorem std_start {K : PySem.W.Frag} {S : AS} {H : Hp} {N : List Str} {vs : List V} {ss : List Sl} (h : SlAll K S H vs ss) : StD K S H (L2.start N vs) (startD N ss) := by
  have hl := h.length
  refine ⟨by unfold L2.start startD; simp [hl], fun i s q => ?_⟩
  unfold startD at q
  by_cases hi : i < ss.length
  · rw [List.getElem?_append_left (by simpa using hi), List.getElem?_map] at q
    cases e : ss[i]? with
    | none => rw [e] at q; cases q
    | some t =>
      rw [e] at q
      cases q
      obtain ⟨v, h1, h2⟩ := h.get e
      refine ⟨v, ?_, h2⟩
      unfold L2.start
      rw [List.getElem?_append_left (by simpa [hl] using hi), List.getElem?_map, h1]
      rfl
  · rw [List.getElem?_append_right (by simpa using hi), List.getElem?_replicate] at q
    split at q <;> cases q
section
variable {P : Program} {w : World} {K : PySem.W.Frag} {mg : Str → Option Value} {base : Heap}
theorem df_of {x : Str} {st : Stmt} {ps N : List Str} {A : List PyData → PyData → Prop} {k : Nat} (T : At K mg x st ps) (S : FnScope N ps (defScope st)) (hlen : ∀ ds d, A ds d → ds.length = ps.length)
    (h : ∀ (f : Addr) (cdv : Value) (A' : Around) (outer : List Env) (s : Shared) (H : Hp) (E : XK) (S' : AS) (ds : List PyData) (d : PyData), Room k (A'.deeper (envOfC x (defScope st) s.heap.objs.size f cdv)) → A ds d →
      VS (Fm.pure S') (cxOf (L2.CX P w) P w K mg base N x (defScope st) f cdv A' outer s H E).nox (defBody st) (startD N (ds.map .dat)) { nx := fun _ => d = .none, rt := fun y => y = d }) : Df P w K mg base x (k + 1) (spD K A) := by
  obtain ⟨f, fd, F, hm, hb⟩ := T.ex
  refine ⟨f, fd, ps, F.okX S ?_ (fun cdv A' outer s H vs Q E hr hs => ?_), hm, F.kp, hb⟩
  · rintro vs H Q E ⟨S', ds, d, _, hn, hA, _⟩
    rw [hn.length]; exact hlen _ _ hA
  · obtain ⟨S', ds, d, hdom, hn, hA, q⟩ := hs
    refine ⟨_, PSs.nox (pss_sem _ (defBody st)), ?_⟩
    refine h f cdv A' outer s H E S' ds d hr hA (L2.start N vs) H _ ⟨trivial, hdom⟩ (std_start hn.sl) ⟨fun σ' H' δ' e o s2 hd => ?_, fun _ _ _ _ _ _ z => z.elim, fun _ _ _ _ _ _ z => z.elim, fun v H' d' e o n hd => ?_⟩
    · subst hd; exact q _ H' e .non
    · subst hd; exact q v H' e n
/-- the same def by a weaker promise -/
theorem Df.imp {x : Str} {k : Nat} {sp sp' : Sp} (G : Df P w K mg base x k sp) (h : ∀ vs H Q E, sp' vs H Q E → sp vs H Q E) : Df P w K mg base x k sp' := by
  obtain ⟨f, fd, ps, G1, G2, G3, G4⟩ := G.ex
  exact ⟨f, fd, ps, G1.imp h, G2, G3, G4⟩
theorem Df.mono {x : Str} {k j : Nat} {sp : Sp} (G : Df P w K mg base x k sp) (h : k ≤ j) : Df P w K mg base x j sp := by
  obtain ⟨f, fd, ps, G1, G2, G3, G4⟩ := G.ex
  exact ⟨f, fd, ps, G1.mono h, G2, G3, G4⟩
end
end Dl
set_option Elab.async false
set_option linter.all false
set_option maxRecDepth 100000
set_option maxHeartbeats 4000000
namespace Dl
open PySem PySem.Spec PyProof.Rows L2
/-! ### the row of draws: [script, at, mixed, rest] -/
/-- the script stands and is not changed -/
def ScOk (K : PySem.W.Frag) (S : AS) (r scr : Addr) (H : Hp) : Prop := ∃ ns : List Int, ns.length ≤ 63 ∧ ((S scr ∧ scr ≠ r ∧ Rd H scr (.lst (ns.map V.int))) ∨ SqL K (fun _ => none) scr (ns.map V.int))
structure RowOk (K : PySem.W.Frag) (S : AS) (r scr : Addr) (H : Hp) : Prop where
  row : ∃ i s c : Int, 0 ≤ i ∧ 0 ≤ s ∧ s < 2147483647 ∧ 0 ≤ c ∧ H r = some (.lst [.ref scr, .int i, .int s, .int c])
  scr : ScOk K S r scr H
theorem ScOk.sq {K : PySem.W.Frag} {S : AS} {r scr : Addr} {H : Hp} (h : ScOk K S r scr H) : ∃ ns : List Int, ns.length ≤ 63 ∧ SqL K H scr (ns.map V.int) := by
  obtain ⟨ns, hl, h⟩ := h
  refine ⟨ns, hl, ?_⟩
  rcases h with ⟨_, _, h⟩ | h
  · exact .inl h
  · exact sql_w h
theorem ScOk.mono {K : PySem.W.Frag} {S : AS} {r scr : Addr} {H H' : Hp} (e : Xt (fun a _ => a = r) H H') (h : ScOk K S r scr H) : ScOk K S r scr H' := by
  obtain ⟨ns, hl, h⟩ := h
  refine ⟨ns, hl, ?_⟩
  rcases h with ⟨s, n, h⟩ | h
  · exact .inl ⟨s, n, rd_mono e (fun _ _ => n) nTl h⟩
  · exact .inr h
theorem RowOk.same {K : PySem.W.Frag} {S : AS} {r scr : Addr} {H H' : Hp} (hr : S r) (e : ∀ a o, S a → H a = some o → H' a = some o) (h : RowOk K S r scr H) : RowOk K S r scr H' := by
  obtain ⟨⟨i, s, c, h1, h2, h3, h4, h5⟩, ns, hl, hs⟩ := h
  refine ⟨⟨i, s, c, h1, h2, h3, h4, e _ _ hr h5⟩, ns, hl, ?_⟩
  rcases hs with ⟨s, n, h⟩ | h
  · refine .inl ⟨s, n, ?_⟩
    rcases h with h | ⟨o, h⟩
    · exact .inl (e _ _ s h)
    · exact .inr ⟨o, e _ _ s h⟩
  · exact .inr h
/-- the frame of a def that draws -/
def Fm.row (K : PySem.W.Frag) (S : AS) (r scr : Addr) (hr : S r) : Fm := ⟨S, fun a _ => a = r, RowOk K S r scr, fun a _ z => .inl (by subst z; exact hr), fun H H' e h => h.same hr fun a o _ q => e.k a o (fun z => z) q⟩
/-- the promise of a def that draws: row first, then data; some data of which k holds is handed back -/
def spR (K : PySem.W.Frag) (A : List PyData → (PyData → Prop) → Prop) : Sp := fun vs H Q _ => ∃ (S : AS) (r scr : Addr) (vs' : List V) (ds : List PyData) (k : PyData → Prop), vs = .ref r :: vs' ∧ S r ∧ (∀ a, S a → H a ≠ none) ∧ RowOk K S r scr H ∧ DnAll K S H vs' ds ∧ A ds k ∧
  ∀ v H' d, Xt (fun a _ => a = r) H H' → RowOk K S r scr H' → Dn K S H' v d → k d → Q v H'
/-- a frame in which the row at r may be drawn from -/
structure HasRow (F : Fm) (K : PySem.W.Frag) (r : Addr) : Prop where
  s : F.S r
  c : ∀ o, F.C r o
  soft : F.soft
  ok : ∀ H, F.J H → ∃ scr, RowOk K F.S r scr H ∧ ∀ H', Xt (fun a _ => a = r) H H' → RowOk K F.S r scr H' → F.J H'
theorem hasRow {K : PySem.W.Frag} {S : AS} {r scr : Addr} {hr : S r} : HasRow (Fm.row K S r scr hr) K r := ⟨hr, fun _ => rfl, fun H H' e h => h.same hr fun a o s => e a o (.inl s), fun H h => ⟨scr, h, fun H' _ h' => h'⟩⟩
section
variable {F : Fm} {X : Cx} {δ : DE} {k : PyData → Prop} {e : Expr} {es : List Expr} {pos p pr : Pos} {x xr : Str} {r : Addr}
/-- f(row, ..) -/
theorem ve_draw (ir : Nat) {A : List PyData → (PyData → Prop) → Prop} {j n : Nat} (hF : HasRow F X.K r) (G : Df X.prog X.w X.K X.mg X.base x j (spR X.K A)) (hr : Room n X.A) (hj : j ≤ n) (ha : VA F X es δ fun ds => ∃ k', A ds k' ∧ ∀ d, k' d → k d)
    (hrow : δ[ir]? = some (some (.raw (.ref r))) := by rfl) (hN : X.N[ir]? = some xr := by rfl) (hv : Vis X.env.scope xr := by first | exact Or.inl rfl | exact Or.inr (Or.inl rfl) | exact Or.inr (Or.inr rfl)) (hg : Gl X x := by rfl) (hdb : (x == ("__debug__" : Str)) = false := by decide)
    (hdr : (xr == ("__debug__" : Str)) = false := by decide) (hcr : (xr == ("__classdict__" : Str)) = false := by decide)
    (he : starEach (.Name xr pr :: es) X.env = (false, eval (.Name xr pr) X.env) :: starEach es X.env := by rfl) (hpl : (backTo pos (starEach es X.env)).any (·.1) = false := by rfl) : VE F X (.Call (.Name x p) (.Name xr pr :: es) [] pos) δ k := fun σ H Q o s q => by
  obtain ⟨f, fd, ps, G1, G2, G3, G4⟩ := G.ex
  refine (pe_call G1 (hr.mono hj) hg G2 G3 G4 .nil passL (pa_cons (pe_var hN hv hdr hcr) (pa_sem X es) he) hdb he hpl).sem ?_
  obtain ⟨v, h1, h2⟩ := s.at_ ir _ hrow
  have h2' : v = .ref r := h2
  subst h2'
  refine ⟨_, h1, ha σ H _ o s fun vs H1 ds e1 o1 n1 ⟨k', hA, hk⟩ => ?_⟩
  show spR X.K A ((V.ref r :: vs) ++ []) H1 Q E0
  rw [List.append_nil]
  obtain ⟨scr, r1, r2⟩ := hF.ok H1 o1.1
  refine ⟨F.S, r, scr, vs, ds, k', rfl, hF.s, o1.2, r1, n1, hA, fun v H' d e2 ro n2 kd => ?_⟩
  have e3 : Xt F.C H1 H' := e2.mono fun a o z => by subst z; exact hF.c o
  refine q v H' d (e1.trans e3) ⟨r2 H' e2 ro, fun a sa z => ?_⟩ n2 (hk d kd)
  by_cases hr : a = r
  · subst hr
    obtain ⟨i, s', c, _, _, _, _, h5⟩ := ro.row
    rw [h5] at z; cases z
  · cases q : H1 a with
    | none => exact o1.2 a sa q
    | some u => rw [e2.k a u hr q] at z; cases z
end
section
variable {P : Program} {w : World} {K : PySem.W.Frag} {mg : Str → Option Value} {base : Heap}
theorem dr_of {x : Str} {st : Stmt} {ps N : List Str} {A : List PyData → (PyData → Prop) → Prop} {k : Nat} (T : At K mg x st ps) (S : FnScope N ps (defScope st)) (hlen : ∀ ds d, A ds d → ds.length + 1 = ps.length)
    (h : ∀ (f : Addr) (cdv : Value) (A' : Around) (outer : List Env) (s : Shared) (H : Hp) (E : XK) (F : Fm) (r : Addr) (ds : List PyData) (k' : PyData → Prop), Room k (A'.deeper (envOfC x (defScope st) s.heap.objs.size f cdv)) → HasRow F K r → A ds k' →
      VS F (cxOf (L2.CX P w) P w K mg base N x (defScope st) f cdv A' outer s H E).nox (defBody st) (startD N (.raw (.ref r) :: ds.map .dat)) { nx := fun _ => k' .none, rt := k' }) : Df P w K mg base x (k + 1) (spR K A) := by
  obtain ⟨f, fd, F, hm, hb⟩ := T.ex
  refine ⟨f, fd, ps, F.okX S ?_ (fun cdv A' outer s H vs Q E hr hs => ?_), hm, F.kp, hb⟩
  · rintro vs H Q E ⟨S', r, scr, vs', ds, d, rfl, _, _, _, hn, hA, _⟩
    show vs'.length + 1 = ps.length
    rw [hn.length]; exact hlen _ _ hA
  · obtain ⟨S', r, scr, vs', ds, k', rfl, hs, hdom, hrow, hn, hA, q⟩ := hs
    refine ⟨_, PSs.nox (pss_sem _ (defBody st)), ?_⟩
    refine h f cdv A' outer s H E (Fm.row K S' r scr hs) r ds k' hr hasRow hA (L2.start N (.ref r :: vs')) H _ ⟨hrow, hdom⟩ (std_start (ss := .raw (.ref r) :: ds.map .dat) (.cons rfl hn.sl)) ⟨fun σ' H' δ' e o s2 hd => ?_, fun _ _ _ _ _ _ z => z.elim, fun _ _ _ _ _ _ z => z.elim, fun v H' d' e o n hd => ?_⟩
    · exact q _ H' _ e o.1 .non hd
    · exact q v H' d' e o.1 n hd
/-- _law_taken -/
def A_taken : List PyData → (PyData → Prop) → Prop := fun ds k => ∃ m : Int, 0 < m ∧ m < 2 ^ 64 ∧ ds = [.int m] ∧ k = fun d => ∃ i : Int, d = .int i ∧ 0 ≤ i ∧ i < m
end
theorem atI_int {α : Type} {xs : List α} {i : Int} (h0 : 0 ≤ i) (h1 : i < xs.length) : ∃ d, atI xs i = some d ∧ xs[i.toNat]? = some d ∧ d ∈ xs := by
  have hi : i.toNat < xs.length := by omega
  refine ⟨xs[i.toNat], ?_, by simp [hi], List.getElem_mem hi⟩
  unfold atI ixN
  rw [if_pos h0, if_pos h1]
  simp [hi]
theorem va_consD {F : Fm} {X : Cx} {δ : DE} {e : Expr} {es : List Expr} {d : PyData} {k : List PyData → Prop} (he : VD F X e δ d) (hr : VA F X es δ fun ds => k (d :: ds)) (hs : starEach (e :: es) X.env = (false, eval e X.env) :: starEach es X.env := by rfl) : VA F X (e :: es) δ k := va_cons (he.to hr) hs
def A_pick : List PyData → (PyData → Prop) → Prop := fun ds k => ∃ xs : List PyData, xs ≠ [] ∧ xs.length ≤ 100000 ∧ ds = [.list xs] ∧ k = fun d => d ∈ xs
section
variable {F : Fm} {X : Cx} {δ : DE} {k : PyData → Prop} {e : Expr} {pos p pr : Pos} {xr : Str} {r : Addr} {m : Int} {n : Nat}
/-- _law_taken(row, e) -/
theorem ve_taken (ir : Nat) (hF : HasRow F X.K r) (G : Df X.prog X.w X.K X.mg X.base "_law_taken" 1 (spR X.K A_taken)) (hr : Room n X.A) (hj : 1 ≤ n) (he : VD F X e δ (.int m)) (h0 : 0 < m) (h1 : m < 2 ^ 64) (hk : ∀ i : Int, 0 ≤ i → i < m → k (.int i))
    (hrow : δ[ir]? = some (some (.raw (.ref r))) := by rfl) (hN : X.N[ir]? = some xr := by rfl) (hv : Vis X.env.scope xr := by first | exact Or.inl rfl | exact Or.inr (Or.inl rfl) | exact Or.inr (Or.inr rfl)) (hg : Gl X "_law_taken" := by rfl)
    (hdr : (xr == ("__debug__" : Str)) = false := by decide) (hcr : (xr == ("__classdict__" : Str)) = false := by decide)
    (hs : starEach [.Name xr pr, e] X.env = (false, eval (.Name xr pr) X.env) :: starEach [e] X.env := by rfl) (hs2 : starEach [e] X.env = [(false, eval e X.env)] := by rfl) : VE F X (.Call (.Name "_law_taken" p) [.Name xr pr, e] [] pos) δ k :=
  ve_draw ir hF G hr hj (VA.to (vl_cons he vl_nil hs2) ⟨_, ⟨m, h0, h1, rfl, rfl⟩, fun d ⟨i, e1, a, b⟩ => by subst e1; exact hk i a b⟩) hrow hN hv hg (by decide) hdr hcr hs (by rw [hs2]; rfl)
/-- _law_pick(row, e) -/
theorem ve_pick (ir : Nat) (hF : HasRow F X.K r) (G : Df X.prog X.w X.K X.mg X.base "_law_pick" 2 (spR X.K A_pick)) (hr : Room n X.A) (hj : 2 ≤ n) (he : VE F X e δ fun d => ∃ xs, d = .list xs ∧ xs ≠ [] ∧ xs.length ≤ 100000 ∧ ∀ x ∈ xs, k x)
    (hrow : δ[ir]? = some (some (.raw (.ref r))) := by rfl) (hN : X.N[ir]? = some xr := by rfl) (hv : Vis X.env.scope xr := by first | exact Or.inl rfl | exact Or.inr (Or.inl rfl) | exact Or.inr (Or.inr rfl)) (hg : Gl X "_law_pick" := by rfl)
    (hdr : (xr == ("__debug__" : Str)) = false := by decide) (hcr : (xr == ("__classdict__" : Str)) = false := by decide)
    (hs : starEach [.Name xr pr, e] X.env = (false, eval (.Name xr pr) X.env) :: starEach [e] X.env := by rfl) (hs2 : starEach [e] X.env = [(false, eval e X.env)] := by rfl) : VE F X (.Call (.Name "_law_pick" p) [.Name xr pr, e] [] pos) δ k :=
  ve_draw ir hF G hr hj (va_cons (he.mono fun d ⟨xs, e1, a, b, c⟩ => va_nil ⟨_, ⟨xs, a, b, by rw [e1], rfl⟩, c⟩) hs2) hrow hN hv hg (by decide) hdr hcr hs (by rw [hs2]; rfl)
end
end Dl
set_option Elab.async false
set_option linter.all false
set_option maxRecDepth 100000
set_option maxHeartbeats 4000000
namespace Dl
open PySem PySem.Spec PyProof.Rows L2
section
variable {F : Fm} {X : Cx} {δ : DE} {k : PyData → Prop} {e a b : Expr} {pos p : Pos} {x : Str} {ds es : List PyData} {R : Out} {rest : List Stmt}
theorem opd_isnotB {K : PySem.W.Frag} {s t : Bool} : OpD K (fun x y H Q => ∃ a b, x = .bl a ∧ y = .bl b ∧ Q (.bl (!decide (a = b))) H) (.bool s) (.bool t) (.bool (!decide (s = t))) := fun S H ux uy Q _ nx ny q => ⟨s, t, nx.sc rfl, ny.sc rfl, q _ H (.refl H) (.bl _)⟩
theorem vb_isnotB {s t : Bool} (ha : VD F X a δ (.bool s)) (hb : VD F X b δ (.bool t)) : VB F X (.Compare a [.IsNot] [b] pos) δ (!decide (s = t)) := vb_cmp op_isnot_bl (nomark _) opd_isnotB ha hb
/-- tuple + tuple, lists + -/
theorem opd_catT {K : PySem.W.Frag} {xs ys : List PyData} (hx : xs ≠ []) (hy : ys ≠ []) (hl : xs.length + ys.length ≤ 100000) : OpD K (rCatTF K) (.tuple xs) (.tuple ys) (.tuple (xs ++ ys)) := fun S H ux uy Q hS nx ny q => by
  cases nx with
  | tup s1 a1 =>
    cases ny with
    | tup s2 a2 =>
      have l1 := a1.length
      have l2 := a2.length
      refine ⟨_, _, _, _, rfl, rfl, s1.sq, s2.sq, fun z => ?_, fun z => ?_, by rw [l1, l2]; exact sz_le hl, fun p ob hd hp => q _ _ (.new hp) (.tup (.inl ⟨fun z => hS _ z hp, ob, hd, upd_same⟩) (Dn.monoAll (C := C0) (fun _ _ z => z.elim) (.new hp) _ _ (a1.append a2)))⟩
      · subst z; exact hx (List.length_eq_zero_iff.mp l1.symm)
      · subst z; exact absurd (List.length_eq_zero_iff.mp l2.symm) hy
theorem vd_catT {xs ys : List PyData} (ha : VD F X a δ (.tuple xs)) (hb : VD F X b δ (.tuple ys)) (hx : xs ≠ [] := by simp) (hy : ys ≠ [] := by simp) (hl : xs.length + ys.length ≤ 100000 := by simp) : VD F X (.BinOp a .Add b pos) δ (.tuple (xs ++ ys)) := vd_op op_catTF (opd_catT hx hy hl) ha hb
/-- all of a list of bools -/
theorem vd_all {bs : List Bool} (hm : X.mg "all" = none) (ha : VD F X a δ (.list (bs.map .bool))) (hc : X.calm = true := by rfl) (hg : Gl X "all" := by rfl) (he : starEach [a] X.env = [(false, eval a X.env)] := by rfl) : VD F X (.Call (.Name "all" p) [a] [] pos) δ (.bool (bs.all id)) :=
  ve_callB (cr_all hc) hm (by decide +kernel) (VA.to (vl_cons ha vl_nil he) ⟨_, fun S H vs Q _ n q => by
    cases n with
    | cons n1 n2 =>
      cases n2
      cases n1 with
      | lst sq al =>
        have e : ∀ {vs : List V} {bs : List Bool}, DnAll X.K S H vs (bs.map .bool) → vs = bs.map V.bl := by
          intro vs bs
          induction bs generalizing vs with
          | nil => intro h; cases h; rfl
          | cons b r ih =>
            intro h
            cases h with
            | cons g1 g2 => cases g1; rw [ih g2]; rfl
        have e2 := e al
        subst e2
        exact ⟨_, bs, rfl, sq.sq, q _ H (.refl H) (.bl _)⟩, rfl⟩) hg (by decide) (by decide) he rfl
end
/-! ### the law -/
section
variable {P : Program} {w : World} {K : PySem.W.Frag} {mg : Str → Option Value} {base : Heap}
/-! ### what the top has written -/
theorem at_mk {h : Heap} {x : Str} {st : Stmt} {ps : List Str} {f : Addr} {oc : Value} {od an : Option Addr} {osl : Array (Option Value)} {kV dc pm cd ct : Value} (X : K.In h) (G : h.Ns mainGlobals mg) (a : PySem.W.nsIn K mainGlobals x = some (some (.ref f)))
    (l : K.lookup f = some ⟨oc, od, .func (PySem.W.fnOf x x (defArgs st) (defBody st) (defScope st) .none kV dc pm an cd ct), osl⟩) (c : PySem.W.codeIn K cd x = true) (k : PySem.W.keepIn K (.ref f) = true)
    (hb : ∀ (kV doc pm : Value) (an : Option Addr) (cdv ct : Value) (us : List Value), us.length = ps.length → bindArgs (PySem.W.fnOf x x (defArgs st) (defBody st) (defScope st) .none kV doc pm an cdv ct) ⟨us, []⟩ = pure (ps.zip us)) : At K mg x st ps :=
  ⟨f, _, fun_mk (st := st) l c k, PySem.W.mg_of X G a, (fun_mk (st := st) l c k).binds hb⟩
theorem dn_mk {h : Heap} {x : Str} {t : Addr} {d : Data} {sl : Array (Option Value)} (X : K.In h) (G : h.Ns mainGlobals mg) (a : PySem.W.nsIn K mainGlobals x = some (some (.ref t))) (l : K.lookup t = some ⟨.type "tuple", none, d, sl⟩) : ∀ a, mg x = some (.ref a) → DN K a := fun b e => by
  rw [PySem.W.mg_of X G a] at e
  cases e
  exact ⟨_, l, rfl, rfl⟩
theorem tup_mk {h : Heap} {x : Str} {vs : List V} {t : Addr} {dd : Option Addr} {its : Array Value} {n : Nat} {sl : Array (Option Value)} (X : K.In h) (G : h.Ns mainGlobals mg) (a : PySem.W.nsIn K mainGlobals x = some (some (.ref t))) (l : K.lookup t = some ⟨.type "tuple", dd, .seq its n, sl⟩) (v : Vals vs its.toList) (hz : vs.length ≤ sizeLine) :
    ∃ a, mg x = some (.ref a) ∧ SqT K (fun _ => none) a vs :=
  ⟨t, PySem.W.mg_of X G a, .inr ⟨_, its, n, l, rfl, rfl, by rw [← Array.length_toList, ← v.length]; exact hz, v⟩⟩
end
end Dl
set_option Elab.async false
set_option linter.all false
set_option maxRecDepth 100000
set_option maxHeartbeats 4000000
namespace Dl
open PySem PySem.Spec PyProof.Rows L2 StX
section
variable {F : Fm} {X : Cx} {δ : DE} {k : PyData → Prop} {e a b : Expr} {es : List Expr} {pos p px py : Pos} {x y : Str} {ds : List PyData} {R : Out} {rest : List Stmt} {v : V}
/-- e comes to this very value -/
def VR (F : Fm) (X : Cx) (e : Expr) (δ : DE) (v : V) : Prop := ∀ (σ : L2.St) (H : Hp) (Q : VK), F.ok H → StD X.K F.S H σ δ → (∀ H' : Hp, Xt F.C H H' → F.ok H' → Q v H') → semE X e σ H Q
theorem VR.sc {d : PyData} (h : VR F X e δ v) (hs : scV d = some v) : VD F X e δ d := fun σ H Q o s q => h σ H Q o s fun H' e o' => q v H' d e o' (dn_sc hs) rfl
theorem vr_glob {u : Value} (hm : X.mg x = some u) (r : RelV v u) (hg : Gl X x := by rfl) (hd : (x == ("__debug__" : Str)) = false := by decide) : VR F X (.Name x pos) δ v := fun σ H Q o s q => (pe_glob hg hm r hd).sem (q H (.refl H) o)
/-- a written tuple's name -/
theorem vd_globT {t : Addr} {vs : List V} (hm : X.mg x = some (.ref t)) (hq : SqT X.K (fun _ => none) t vs) (hn : DN X.K t) (hv : ds.map scV = vs.map some) (hg : Gl X x := by rfl) (hd : (x == ("__debug__" : Str)) = false := by decide) : VD F X (.Name x pos) δ (.tuple ds) := fun σ H Q o s q =>
  (pe_glob (v := .ref t) hg hm rfl hd).sem (q _ H _ (.refl H) o (.tup (.inr ⟨hq, hn⟩) (flat_dn ⟨vs, hv, rfl⟩)) rfl)
/-- D[e], D a written dict of texts -/
theorem vr_kd {q : Addr} {z : Str} (ha : VR F X a δ (.ref q)) (hb : VD F X b δ (.str z)) (hk : KDct X.K X.w q z v) (hs : PlainIx b := by intro _ _; rfl) : VR F X (.Subscript a b pos) δ v := fun σ H Q o s qq =>
  (pe_ix ix_kdict (pe_sem X a) (pe_sem X b) hs).sem (ha σ H _ o s fun H1 e1 o1 => hb σ H1 _ o1 (o.all s e1) fun u H2 d e2 o2 n2 kd => by
    subst kd
    exact ⟨q, z, v, rfl, n2.sc rfl, hk, qq H2 (e1.trans e2) o2⟩)
end
/-! ### comprehensions without a condition -/
section
variable {F : Fm} {X : Cx} {δ : DE} {pos p px py : Pos} {x y : Str} {ds : List PyData} {R : Out} {rest : List Stmt} {elt iter : Expr} {scope : Scope} {spos : Pos}
/-- [elt for x in iter] -/
theorem vd_lcm (j : Nat) (g : PyData → PyData) (hi : VI F X (.Name x px) iter δ fun xs => xs = ds) (hl : ds.length ≤ 100000)
    (he : ∀ d ∈ ds, ∀ (E : Addr) (s : Shared) (H : Hp) (C : Addr) (cl : List (Str × Addr)) (fp : List Addr), VD (F.more E) (X.blk s H scope (compEnvC scope cl C X.env) fp) elt (δ.set j (some (.dat d))) (g d))
    (hN : X.N.Nodup) (ok : BlkOk X.N X.env.scope scope [(x, j)]) (hg : ∀ (s : Shared) (H : Hp) (C : Addr) (cl : List (Str × Addr)) (fp : List Addr), PG (X.blk s H scope (compEnvC scope cl C X.env) fp) (.Name x px) (gName j))
    (hc : X.calm = true := by rfl) (hs : ∀ x, foldedSetIterable iter X.env x = pure x := by intro _; rfl) (hsf : F.soft := by first | exact Fm.soft_pure | assumption | exact HasRow.soft (by assumption) | exact Fm.soft_more Fm.soft_pure | exact Fm.soft_more (HasRow.soft (by assumption))) : VD F X (.ListComp elt [⟨.Name x px, iter, [], 0⟩] scope pos) δ (.list (ds.map g)) :=
  ve_lc j (fun _ => true) (fun x y => y = g x) (fun σ H R o s h => hi σ H R o s fun J H' ds' e o w kk => by
    subst kk
    exact h J H' ds' e o w ⟨hl, fun _ _ _ _ _ _ _ _ => vts_nil, fun d hd _ => he d hd, fun ys hy => by rw [LcR.det hy, List.filter_eq_self.mpr (fun _ _ => rfl)]⟩) hN ok hg hc hs hsf
end
/-! ### a written dict of texts -/
def KdI (K : PySem.W.Frag) (w : World) (q : Addr) : List (Str × Int) → Prop
  | [] => True
  | (z, i) :: r => KDct K w q z (.int i) ∧ KdI K w q r
def KdF (K : PySem.W.Frag) (w : World) (mg : Str → Option Value) (q : Addr) : List (Str × Str) → Prop
  | [] => True
  | (z, n) :: r => (∃ f, mg n = some (.ref f) ∧ KDct K w q z (.ref f)) ∧ KdF K w mg q r
def KeI (K : PySem.W.Frag) (q : Addr) : List (Str × Int) → Prop
  | [] => True
  | (z, i) :: r => (∃ t, PySem.W.nsIn K q z = some (some (.int i t))) ∧ KeI K q r
section
variable {K : PySem.W.Frag} {w : World} {mg : Str → Option Value} {h : Heap} {x : Str} {q : Addr} {es : Array DictEntry} {n : Nat}
theorem kdI_all (l : K.lookup q = some ⟨.type "dict", none, .dict es n, #[]⟩) (hk : PySem.W.KeysLit w.params es.toList) : ∀ {L : List (Str × Int)}, KeI K q L → KdI K w q L
  | [], _ => trivial
  | (z, i) :: r, ⟨⟨t, e⟩, h⟩ => ⟨⟨es, n, _, l, hk, e, ⟨t, rfl⟩⟩, kdI_all l hk h⟩
theorem KdI.get : ∀ {L : List (Str × Int)} {z : Str} {i : Int}, KdI K w q L → (z, i) ∈ L → KDct K w q z (.int i)
  | (z, i) :: r, _, _, ⟨h, _⟩, .head _ => h
  | _ :: r, _, _, ⟨_, h⟩, .tail _ m => KdI.get h m
theorem KdF.get : ∀ {L : List (Str × Str)} {z n : Str}, KdF K w mg q L → (z, n) ∈ L → ∃ f, mg n = some (.ref f) ∧ KDct K w q z (.ref f)
  | (z, i) :: r, _, _, ⟨h, _⟩, .head _ => h
  | _ :: r, _, _, ⟨_, h⟩, .tail _ m => KdF.get h m
theorem kdI_mk {L : List (Str × Int)} (X : K.In h) (G : h.Ns mainGlobals mg) (a : PySem.W.nsIn K mainGlobals x = some (some (.ref q))) (l : K.lookup q = some ⟨.type "dict", none, .dict es n, #[]⟩) (hk : PySem.W.KeysLit w.params es.toList) (e : KeI K q L) : ∃ a, mg x = some (.ref a) ∧ KdI K w a L :=
  ⟨q, PySem.W.mg_of X G a, kdI_all l hk e⟩
end
end Dl
set_option Elab.async false
set_option linter.all false
set_option maxRecDepth 100000
/-! Fx: formats as plain Lean, and their data -/
namespace Fx
open PySem
inductive Mode | even | away | down | up | zero
  deriving DecidableEq
def Mode.s : Mode → Str
  | .even => "even" | .away => "away" | .down => "down" | .up => "up" | .zero => "zero"
def tinyS (g : Bool) : Str := if g then "gradual" else "flush"
def hugeS (f : Bool) : Str := if f then "infinite" else "largest"
structure Form where
  p : Nat
  low : Int
  e : Nat
  mode : Mode
  g : Bool
  inf : Bool
structure Form.Ok (f : Form) : Prop where
  p4 : 4 ≤ f.p
  p10 : f.p ≤ 10
  e20 : f.e ≤ 20
  lo : -40 ≤ f.low
  hi : f.low + f.e ≤ 40
def encF (f : Form) : PyData := .tuple [.int f.p, .int f.low, .int (f.low + f.e), .str f.mode.s, .str (tinyS f.g), .str (hugeS f.inf)]
/-- the least positive normal number, the greatest number, in units -/
def nrm (f : Form) : Int := 2 ^ (f.p - 1)
def top (f : Form) : Int := (2 ^ f.p - 1) * 2 ^ f.e
end Fx
set_option Elab.async false
set_option linter.all false
set_option maxRecDepth 100000
/-! Fx: numbers and roundings as plain Lean -/
namespace Fx
open PySem
inductive Res | fin (i : Int) | pinf | ninf
  deriving DecidableEq
def encR : Res → PyData
  | .fin i => .int i
  | .pinf => .str "inf"
  | .ninf => .str "-inf"
/-- bits of a natural number -/
def bln (n : Nat) : Nat := if n = 0 then 0 else n.log2 + 1
theorem bits_bln (i : Int) : Builtin.Int.intBits i = bln i.natAbs := by
  unfold Builtin.Int.intBits bln
  by_cases h : i = 0
  · subst h; rfl
  · have h1 : i.natAbs ≠ 0 := by omega
    simp [h, h1]
theorem bln_lt (n : Nat) : n < 2 ^ bln n := by
  unfold bln
  split
  · omega
  · exact Nat.lt_log2_self
theorem bln_le {n : Nat} (h : n ≠ 0) : 2 ^ (bln n - 1) ≤ n := by
  unfold bln
  rw [if_neg h]
  exact Nat.log2_self_le h
theorem bln_le_of {n k : Nat} (h : n < 2 ^ k) : bln n ≤ k := by
  by_cases h0 : n = 0
  · subst h0; exact Nat.zero_le _
  · have h1 := bln_le h0
    have h2 : bln n - 1 < k := (Nat.pow_lt_pow_iff_right (by decide : 1 < 2)).mp (Nat.lt_of_le_of_lt h1 h)
    have : bln n ≠ 0 := by unfold bln; rw [if_neg h0]; omega
    omega
theorem le_bln {n k : Nat} (h : 2 ^ k ≤ n) : k + 1 ≤ bln n := by
  have h1 := Nat.lt_of_le_of_lt h (bln_lt n)
  exact (Nat.pow_lt_pow_iff_right (by decide : 1 < 2)).mp h1
theorem bln_eq {n k : Nat} (h1 : 2 ^ k ≤ n) (h2 : n < 2 ^ (k + 1)) : bln n = k + 1 := Nat.le_antisymm (bln_le_of h2) (le_bln h1)
/-- trailing zeros, the odd part -/
def tzF : Nat → Int → Nat
  | 0, _ => 0
  | n + 1, u => if u % 2 = 0 then tzF n (u / 2) + 1 else 0
def tz (u : Int) : Nat := tzF u.natAbs u
def od (u : Int) : Int := u / 2 ^ tz u
theorem tzF_spec : ∀ (n : Nat) (u : Int), u ≠ 0 → u.natAbs ≤ n → ∃ m, u = m * 2 ^ tzF n u ∧ m % 2 = 1
  | 0, u, h0, hn => by omega
  | n + 1, u, h0, hn => by
    unfold tzF
    by_cases h : u % 2 = 0
    · rw [if_pos h]
      obtain ⟨m, h1, h2⟩ := tzF_spec n (u / 2) (by omega) (by omega)
      refine ⟨m, ?_, h2⟩
      have e : u = (u / 2) * 2 := by omega
      rw [Int.pow_succ, ← Int.mul_assoc, ← h1]
      exact e
    · rw [if_neg h]
      exact ⟨u, by simp, by omega⟩
theorem tz_spec {u : Int} (h : u ≠ 0) : u = od u * 2 ^ tz u ∧ od u % 2 = 1 := by
  obtain ⟨m, h1, h2⟩ := tzF_spec u.natAbs u h (Nat.le_refl _)
  have e : od u = m := by
    unfold od tz
    have p : (2 : Int) ^ tzF u.natAbs u ≠ 0 := Int.pow_ne_zero (by decide)
    generalize tzF u.natAbs u = z at h1 p
    rw [h1]
    exact Int.mul_ediv_cancel _ p
  rw [e]
  exact ⟨h1, h2⟩
theorem odd_unique : ∀ (z w : Nat) (m n : Int), m * 2 ^ z = n * 2 ^ w → m % 2 = 1 → n % 2 = 1 → m = n ∧ z = w
  | 0, 0, m, n, h, _, _ => ⟨by simpa using h, rfl⟩
  | 0, w + 1, m, n, h, h1, h2 => by
    exfalso
    rw [Int.pow_succ, Int.pow_zero, Int.mul_one, ← Int.mul_assoc] at h
    omega
  | z + 1, 0, m, n, h, h1, h2 => by
    exfalso
    rw [Int.pow_succ, Int.pow_zero, Int.mul_one, ← Int.mul_assoc] at h
    omega
  | z + 1, w + 1, m, n, h, h1, h2 => by
    rw [Int.pow_succ, Int.pow_succ, ← Int.mul_assoc, ← Int.mul_assoc] at h
    obtain ⟨e1, e2⟩ := odd_unique z w m n (by omega) h1 h2
    exact ⟨e1, by rw [e2]⟩
theorem tz_unique {u m : Int} {z : Nat} (h : u = m * 2 ^ z) (hm : m % 2 = 1) : od u = m ∧ tz u = z := by
  have p : (2 : Int) ^ z ≠ 0 := Int.pow_ne_zero (by decide)
  have h0 : u ≠ 0 := by
    intro e
    rw [e] at h
    rcases Int.mul_eq_zero.mp h.symm with h | h
    · omega
    · exact p h
  obtain ⟨h1, h2⟩ := tz_spec h0
  exact odd_unique _ _ _ _ (h1.symm.trans h) h2 hm
/-- the value of so many units -/
def valD (f : Form) (u : Int) : PyData := if u = 0 then .tuple [.int 0, .int 0] else .tuple [.int (od u), .int (f.low + tz u)]
def encV (f : Form) : Res → PyData
  | .fin u => valD f u
  | .pinf => .str "inf"
  | .ninf => .str "-inf"
/-- the same in natural numbers -/
def nrmN (f : Form) : Nat := 2 ^ (f.p - 1)
def topN (f : Form) : Nat := (2 ^ f.p - 1) * 2 ^ f.e
theorem nrm_cast (f : Form) : nrm f = (nrmN f : Int) := by unfold nrm nrmN; simp
theorem top_cast (f : Form) : top f = (topN f : Int) := by
  unfold top topN
  have h : 1 ≤ 2 ^ f.p := Nat.one_le_two_pow
  rw [Int.natCast_mul, Int.natCast_sub h]
  simp
/-- is so many units, without its sign, a number -/
def numN (f : Form) (s : Nat) : Bool := if s < nrmN f then (s == 0 || f.g) else decide (s ≤ topN f) && (s % 2 ^ (bln s - f.p) == 0)
def isNum (f : Form) (u : Int) : Bool := numN f u.natAbs
theorem dec_tiny (g : Bool) : decide (tinyS g = ("gradual" : Str)) = g := by cases g <;> decide +kernel
theorem two_pow_pos (n : Nat) : (0 : Int) < 2 ^ n := Int.pow_pos (by decide)
theorem Int.pow_le_pow_right₀ (m n : Nat) (h : m ≤ n) : (2 : Int) ^ m ≤ 2 ^ n := by
  have := Nat.pow_le_pow_right (n := 2) (by decide) h
  exact_mod_cast this
end Fx
set_option Elab.async false
set_option linter.all false
set_option maxRecDepth 100000
namespace Fx
open PySem
end Fx
set_option Elab.async false
set_option linter.all false
set_option maxRecDepth 100000
namespace Fx
open PySem
theorem nrmN_pos (f : Form) : 0 < nrmN f := Nat.two_pow_pos _
theorem nrmN_le {f : Form} (ok : f.Ok) : nrmN f ≤ 512 := by
  have := Nat.pow_le_pow_right (n := 2) (by decide) (show f.p - 1 ≤ 9 by have := ok.p10; omega)
  exact this
theorem topN_lt {f : Form} (ok : f.Ok) : topN f < 2 ^ 30 := by
  have h1 := Nat.pow_le_pow_right (n := 2) (by decide) ok.p10
  have h2 := Nat.pow_le_pow_right (n := 2) (by decide) ok.e20
  have h3 : topN f ≤ (2 ^ 10 - 1) * 2 ^ 20 := Nat.mul_le_mul (by omega) h2
  exact Nat.lt_of_le_of_lt h3 (by decide)
end Fx
set_option Elab.async false
set_option linter.all false
set_option maxRecDepth 100000
namespace Fx
open PySem
/-- an integer within limits -/
def within (d : PyData) (l g : Int) : Bool := match d with
  | .int i => decide (l ≤ i) && decide (i ≤ g)
  | _ => false
end Fx
set_option Elab.async false
set_option linter.all false
set_option maxRecDepth 100000
set_option exponentiation.threshold 5000
namespace Fx
open PySem
theorem natAbs_od {u : Int} (h : u ≠ 0) : u.natAbs = (od u).natAbs * 2 ^ tz u := by
  have := congrArg Int.natAbs (tz_spec h).1
  rw [Int.natAbs_mul, Int.natAbs_pow] at this
  exact this
theorem tz_le {u : Int} (h : u ≠ 0) {m : Nat} (hm : u.natAbs < 2 ^ m) : tz u < m := by
  have h1 := natAbs_od h
  have h2 : 1 ≤ (od u).natAbs := by have := (tz_spec h).2; omega
  have h3 : 2 ^ tz u ≤ u.natAbs := by rw [h1]; exact Nat.le_mul_of_pos_left _ h2
  exact (Nat.pow_lt_pow_iff_right (by decide : 1 < 2)).mp (Nat.lt_of_le_of_lt h3 hm)
theorem nrm_le_top {f : Form} (ok : f.Ok) : nrmN f ≤ topN f := by
  unfold nrmN topN
  have p4 := ok.p4
  have e : 2 ^ f.p = 2 * 2 ^ (f.p - 1) := by
    rw [← Nat.pow_succ']; congr 1; omega
  have h2 : 0 < 2 ^ (f.p - 1) := Nat.two_pow_pos _
  have h3 : 2 ^ (f.p - 1) ≤ 2 ^ f.p - 1 := by omega
  exact Nat.le_trans h3 (Nat.le_mul_of_pos_right _ (Nat.two_pow_pos _))
theorem isNum_le {f : Form} (ok : f.Ok) {u : Int} (h : isNum f u = true) : u.natAbs ≤ topN f := by
  unfold isNum numN at h
  split at h
  · have := nrm_le_top ok
    omega
  · simp only [Bool.and_eq_true, decide_eq_true_eq] at h
    exact h.1
theorem isNum_lt {f : Form} (ok : f.Ok) {u : Int} (h : isNum f u = true) : u.natAbs < 2 ^ 30 := Nat.lt_of_le_of_lt (isNum_le ok h) (topN_lt ok)
theorem pow_mono {a b : Nat} {n : Nat} (h : n < 2 ^ a) (hab : a ≤ b) : n < 2 ^ b := Nat.lt_of_lt_of_le h (Nat.pow_le_pow_right (by decide) hab)
end Fx
set_option Elab.async false
set_option linter.all false
set_option maxRecDepth 100000
set_option exponentiation.threshold 5000
namespace Fx
open PySem Dl
def fmtB : PyData → Bool
  | .tuple [p, .int low, high, mode, tiny, huge] => within p 4 10 && (within (.int low) (-40) 40 && (within high low (min (low + 20) 40) && (inF mode [.str ("even" : Str), .str ("away" : Str), .str ("down" : Str), .str ("up" : Str), .str ("zero" : Str)] && (inF tiny [.str ("gradual" : Str), .str ("flush" : Str)] && inF huge [.str ("infinite" : Str), .str ("largest" : Str)]))))
  | _ => false
/-- of six items the last three are plain -/
def fmtPre : PyData → Prop
  | .tuple [_, _, _, mode, tiny, huge] => scD mode = true ∧ scD tiny = true ∧ scD huge = true
  | _ => True
def dyB : PyData → Bool
  | .tuple [.int n, k] => within (.int n) (-(10 ^ 40)) (10 ^ 40) && (within k (-400) 400 && (decide (n % 2 = 1) || (decide (n = 0) && (match k with | .int k => decide (k = 0) | _ => false))))
  | _ => false
def stB (f : Form) : PyData → Bool
  | .tuple [.int n, .int k] => decide (n = 0) || (decide (f.low ≤ k) && isNum f (n * 2 ^ (k - f.low).toNat))
  | _ => false
def hasB (f : Form) (v : PyData) : Bool := dyB v && stB f v
theorem dyB_inv {v : PyData} (h : dyB v = true) : ∃ n k : Int, v = .tuple [.int n, .int k] ∧ n.natAbs ≤ 10 ^ 40 ∧ -400 ≤ k ∧ k ≤ 400 := by
  unfold dyB at h
  split at h
  · rename_i n k
    simp only [Bool.and_eq_true] at h
    obtain ⟨h1, h2, _⟩ := h
    obtain ⟨k, rfl⟩ : ∃ m, k = .int m := by
      cases k <;> first | exact ⟨_, rfl⟩ | (simp [within] at h2)
    simp only [within, Bool.and_eq_true, decide_eq_true_eq] at h1 h2
    exact ⟨n, k, rfl, by omega, h2.1, h2.2⟩
  · cases h
theorem hasB_val {f : Form} (ok : f.Ok) {u : Int} (h : isNum f u = true) : hasB f (valD f u) = true := by
  have hl := isNum_lt ok h
  have lo := ok.lo
  have hi := ok.hi
  by_cases h0 : u = 0
  · subst h0; rfl
  · obtain ⟨h1, h2⟩ := tz_spec h0
    have h3 := tz_le h0 hl
    have h4 : (od u).natAbs ≤ u.natAbs := by rw [natAbs_od h0]; exact Nat.le_mul_of_pos_right _ (Nat.two_pow_pos _)
    have e : (f.low + (tz u : Int) - f.low).toNat = tz u := by omega
    have big : ((10 : Int) ^ 40) = 10000000000000000000000000000000000000000 := by decide
    unfold hasB valD
    rw [if_neg h0]
    simp only [dyB, stB, within, e, ← h1, h, Bool.and_true, Bool.and_eq_true, Bool.or_eq_true, decide_eq_true_eq, big]
    omega
theorem fmtB_enc {f : Form} (ok : f.Ok) : fmtB (encF f) = true ∧ fmtPre (encF f) := by
  refine ⟨?_, rfl, rfl, rfl⟩
  have p4 := ok.p4
  have p10 := ok.p10
  have lo := ok.lo
  have hi := ok.hi
  have e20 := ok.e20
  have h1 : inF (.str f.mode.s) [.str ("even" : Str), .str ("away" : Str), .str ("down" : Str), .str ("up" : Str), .str ("zero" : Str)] = true := by cases f.mode <;> decide +kernel
  have h2 : inF (.str (tinyS f.g)) [.str ("gradual" : Str), .str ("flush" : Str)] = true := by cases f.g <;> decide +kernel
  have h3 : inF (.str (hugeS f.inf)) [.str ("infinite" : Str), .str ("largest" : Str)] = true := by cases f.inf <;> decide +kernel
  show (within (.int f.p) 4 10 && _) = true
  simp only [within, h1, h2, h3, Bool.and_true, Bool.and_eq_true, decide_eq_true_eq]
  omega
end Fx
set_option Elab.async false
set_option linter.all false
set_option maxRecDepth 100000
set_option exponentiation.threshold 5000
namespace Fx
open PySem Dl
end Fx
set_option Elab.async false
set_option linter.all false
set_option maxRecDepth 100000
set_option exponentiation.threshold 5000
namespace Fx
open PySem Dl
theorem num_scaled {f : Form} (ok : f.Ok) {m j : Nat} (h1 : nrmN f ≤ m) (h2 : m < 2 ^ f.p) (hj : j ≤ f.e) : numN f (m * 2 ^ j) = true := by
  have p4 := ok.p4
  have e : bln (m * 2 ^ j) = f.p + j := by
    have a : 2 ^ (f.p - 1 + j) ≤ m * 2 ^ j := by rw [Nat.pow_add]; exact Nat.mul_le_mul_right _ h1
    have b : m * 2 ^ j < 2 ^ (f.p + j) := by rw [Nat.pow_add]; exact Nat.mul_lt_mul_of_pos_right h2 (Nat.two_pow_pos _)
    have := bln_eq a (by rw [show f.p - 1 + j + 1 = f.p + j by omega]; exact b)
    omega
  have hle : m ≤ m * 2 ^ j := Nat.le_mul_of_pos_right _ (Nat.two_pow_pos _)
  unfold numN
  rw [if_neg (by omega), e, show f.p + j - f.p = j by omega, Nat.mul_mod_left]
  have h3 : m * 2 ^ j ≤ topN f := by
    unfold topN
    exact Nat.mul_le_mul (by omega) (Nat.pow_le_pow_right (by decide) hj)
  rw [decide_eq_true h3]
  rfl
theorem num_zero (f : Form) : numN f 0 = true := by
  unfold numN
  rw [if_pos (nrmN_pos f)]
  rfl
theorem num_least {f : Form} (ok : f.Ok) : numN f (if f.g = true then 1 else nrmN f) = true := by
  have hn := nrmN_pos f
  have p4 := ok.p4
  cases hg : f.g
  · rw [if_neg Bool.false_ne_true]
    have := num_scaled ok (m := nrmN f) (j := 0) (Nat.le_refl _) (Nat.pow_lt_pow_right (by decide) (by omega)) (Nat.zero_le _)
    simpa using this
  · rw [if_pos rfl]
    unfold numN
    have h2 : 1 < nrmN f := by
      have : 2 ^ 3 ≤ nrmN f := Nat.pow_le_pow_right (by decide) (by omega)
      omega
    rw [if_pos h2, hg]
    rfl
theorem num_top {f : Form} (ok : f.Ok) : numN f (topN f) = true := by
  have p4 := ok.p4
  have hp : 2 ^ f.p = 2 * 2 ^ (f.p - 1) := by rw [← Nat.pow_succ']; congr 1; omega
  have h2 := Nat.two_pow_pos (f.p - 1)
  exact num_scaled ok (m := 2 ^ f.p - 1) (j := f.e) (by unfold nrmN; omega) (by omega) (Nat.le_refl _)
theorem num_sub {f : Form} (hg : f.g = true) {m : Nat} (h : m < nrmN f) : numN f m = true := by
  unfold numN
  rw [if_pos h, hg, Bool.or_true]
end Fx
set_option Elab.async false
set_option linter.all false
set_option maxRecDepth 100000
set_option exponentiation.threshold 5000
namespace Fx
open PySem Dl
end Fx
set_option Elab.async false
set_option linter.all false
set_option maxRecDepth 100000
set_option exponentiation.threshold 5000
/-! Fx: the theory of the rounding: identity on numbers, monotone, results are numbers -/
namespace Fx
open PySem Dl
end Fx
set_option Elab.async false
set_option linter.all false
set_option maxRecDepth 100000
set_option maxHeartbeats 4000000
set_option exponentiation.threshold 5000
/-! Fx: results as data and as tests; the fourteen rules -/
namespace Fx
open PySem PySem.Spec PyProof.Rows L2 Dl
/-! ### the rules -/
inductive Rule where
  | sumSign | zeroDiff | closeDiff | errTerm | fastErr | symm | midp | aver | addBack | group | absorb | third | halves | squares
  deriving DecidableEq
def Rule.s : Rule → Str
  | .sumSign => "sum sign" | .zeroDiff => "zero difference" | .closeDiff => "close difference" | .errTerm => "error term" | .fastErr => "fast error" | .symm => "symmetry" | .midp => "midpoint" | .aver => "average"
  | .addBack => "add back" | .group => "grouping" | .absorb => "absorption" | .third => "third" | .halves => "halves" | .squares => "squares"
def Rule.all : List Rule := [.sumSign, .zeroDiff, .closeDiff, .errTerm, .fastErr, .symm, .midp, .aver, .addBack, .group, .absorb, .third, .halves, .squares]
def Rule.ar : Rule → Nat
  | .group => 3
  | .third => 1 | .halves => 1 | .squares => 1
  | _ => 2
theorem dec_rule (r q : Rule) : decide (r.s = q.s) = decide (r = q) := by cases r <;> cases q <;> decide +kernel
/-! ### a result, or none -/
/-! ### the law's own arithmetic: a result, or none -/
end Fx
namespace Dl
open PySem PySem.Spec PyProof.Rows L2
section
variable {F : Fm} {X : Cx} {δ : DE} {R R' : Out} {sts rest body orelse : List Stmt} {pos : Pos}
theorem VS.mono (h : VS F X sts δ R) (h1 : ∀ d, R.nx d → R'.nx d) (h2 : ∀ d, R.rt d → R'.rt d) (h3 : ∀ d, R.bk d → R'.bk d) (h4 : ∀ d, R.ct d → R'.ct d) : VS F X sts δ R' := fun σ H D o s q =>
  h σ H D o s ⟨fun σ' H' δ' e o s k => q.nx σ' H' δ' e o s (h1 _ k), fun σ' H' δ' e o s k => q.bk σ' H' δ' e o s (h3 _ k), fun σ' H' δ' e o s k => q.ct σ' H' δ' e o s (h4 _ k), fun v H' d e o n k => q.rt v H' d e o n (h2 _ k)⟩
end
end Dl
set_option Elab.async false
set_option linter.all false
set_option maxRecDepth 100000
set_option maxHeartbeats 4000000
set_option exponentiation.threshold 5000
namespace Dl
open PySem PySem.Spec PyProof.Rows L2
end Dl
set_option Elab.async false
set_option linter.all false
set_option maxRecDepth 100000
set_option maxHeartbeats 4000000
namespace Dl
open PySem PySem.Spec PyProof.Rows L2
/-! ### blocks that raise -/
section
variable {F : Fm} {X : Cx} {δ : DE} {k : PyData → Prop} {e : Expr} {pos : Pos} {rest body orelse : List Stmt} {p : Hp → Prop}
/-- the block raises, wherever p holds -/
def VX (F : Fm) (X : Cx) (sts : List Stmt) (δ : DE) (p : Hp → Prop) : Prop := ∀ (σ : L2.St) (H : Hp) (D : Ends), F.ok H → StD X.K F.S H σ δ → (∀ H', Xt F.C H H' → F.ok H' → p H') → semSs X sts D σ H
theorem vx_expr (he : VE F X e δ fun _ => VX F X rest δ p) (hs : swapsWith e none pos.line X.env = pure false := by rfl) : VX F X (.Expr e pos :: rest) δ p := fun σ H D o s q =>
  (pss_cons (ps_expr (pe_sem X e) hs) (pss_sem X rest)).sem (he σ H _ o s fun v H1 d e1 o1 n1 kd => kd σ H1 D o1 (o.all s e1) fun H' e2 o2 => q H' (e1.trans e2) o2)
theorem vx_if {c : Expr} {t : Bool} (hc : VB F X c δ t) (h1 : t = true → VX F X body δ p) (h2 : t = false → VX F X rest δ p) : VX F X (.If c body [] pos :: rest) δ p := fun σ H D o s q =>
  (pss_cons (ps_if (pt_sem X c) (pss_sem X body) (pss_sem X [])) (pss_sem X rest)).sem (hc σ H _ o s fun b H1 e1 o1 kb => by
    subst kb
    cases b with
    | true => exact h1 rfl σ H1 _ o1 (o.all s e1) fun H' e2 o2 => q H' (e1.trans e2) o2
    | false => exact pss_nil.sem (h2 rfl σ H1 _ o1 (o.all s e1) fun H' e2 o2 => q H' (e1.trans e2) o2))
theorem vx_raise {W : WX} {C : Value} (hc : X.calm = true) (tk : Takes X W) (he : PMk X e (fun _ H Q => Q C none H)) (hw : ∀ σ H', p H' → W C none σ H') : VX F X (.Raise (some e) none pos :: rest) δ p := fun σ H D o s q =>
  (pss_cons (ps_raise hc tk he) (pss_sem X rest)).sem (hw _ _ (q H (.refl H) o))
end
/-- an own class of errors without an __init__ -/
structure ExcAt (K : PySem.W.Frag) (mg : Str → Option Value) (x : Str) (C : Addr) : Prop where
  g : mg x = some (.ref C)
  xP : PySem.W.excIn K C [.type "ValueError", .type "Exception", .type "BaseException", .type "object"] "ValueError.__new__" = true
  kP : PySem.W.keepIn K (.ref C) = true
  bP : PySem.W.subIn K (.ref C) (.type "BaseException") = some true
  tP : PySem.W.typeIn K (.ref C) = some (.type "type")
  iP : PySem.W.isClsIn K C = true
/-- the promise of a def that raises C -/
def spX (K : PySem.W.Frag) (C : Addr) (B : List PyData → Prop) : Sp := fun vs H _ E => ∃ (S : AS) (ds : List PyData), (∀ a, S a → H a ≠ none) ∧ DnAll K S H vs ds ∧ B ds ∧ ∀ H', Xt C0 H H' → E (.ref C) none H'
section
variable {P : Program} {w : World} {K : PySem.W.Frag} {mg : Str → Option Value} {base : Heap}
theorem dfx_of {x : Str} {st : Stmt} {ps N : List Str} {B : List PyData → Prop} {k : Nat} {C : Addr} (T : At K mg x st ps) (S : FnScope N ps (defScope st)) (hlen : ∀ ds, B ds → ds.length = ps.length)
    (h : ∀ (f : Addr) (cdv : Value) (A' : Around) (outer : List Env) (s : Shared) (H : Hp) (E : XK) (S' : AS) (ds : List PyData), Room k (A'.deeper (envOfC x (defScope st) s.heap.objs.size f cdv)) → B ds →
      VX (Fm.pure S') (cxOf (L2.CX P w) P w K mg base N x (defScope st) f cdv A' outer s H E) (defBody st) (startD N (ds.map .dat)) (fun H' => E (.ref C) none H')) : Df P w K mg base x (k + 1) (spX K C B) := by
  obtain ⟨f, fd, F, hm, hb⟩ := T.ex
  refine ⟨f, fd, ps, F.okX S ?_ (fun cdv A' outer s H vs Q E hr hs => ?_), hm, F.kp, hb⟩
  · rintro vs H Q E ⟨S', ds, _, hn, hB, _⟩
    rw [hn.length]; exact hlen _ hB
  · obtain ⟨S', ds, hdom, hn, hB, q⟩ := hs
    exact ⟨_, pss_sem _ (defBody st), h f cdv A' outer s H E S' ds hr hB (L2.start N vs) H _ ⟨trivial, hdom⟩ (std_start hn.sl) fun H' e _ => q H' e⟩
/-- raise C('..') -/
theorem vx_own {F : Fm} {X : Cx} {δ : DE} {rest : List Stmt} {pos p1 p2 p3 : Pos} {x m : Str} {j : Nat} {C : Addr} {E : XK} {p : Hp → Prop} (T : ExcAt X.K X.mg x C) (tk : Takes X (fun cls d _ H => E cls d H)) (hw : ∀ H', p H' → E (.ref C) none H') (hc : X.calm = true := by rfl) (hg : Gl X x := by rfl) (hdb : (x == ("__debug__" : Str)) = false := by decide) :
    VX F X (.Raise (some (.Call (.Name x p1) [.Constant (.str m) j p2] [] p3)) none pos :: rest) δ p :=
  vx_raise hc tk (pmk_own PySem.F.excBase_ValueError T.xP T.g T.kP (raises_own T.bP T.tP) hg hdb) fun σ H' h => hw H' h
end
end Dl
set_option Elab.async false
set_option linter.all false
set_option maxRecDepth 100000
set_option maxHeartbeats 4000000
namespace Dl
open PySem PySem.Spec PyProof.Rows L2 LamX
end Dl
set_option Elab.async false
set_option linter.all false
set_option maxRecDepth 100000
set_option maxHeartbeats 4000000
namespace Dl
open PySem PySem.Spec PyProof.Rows L2 LamX
/-! ### a frame that knows a table of code objects -/
theorem co_list {c : Addr} {q : Str} (xs : List V) : CodeO c q ≠ .lst xs := fun z => by unfold CodeO at z; cases z
theorem tabS_keep {H H' : Hp} {P : Addr} {q : Str} (e : ∀ b o, (∀ xs, o ≠ HO.lst xs) → H b = some o → H' b = some o) (t : TabS H P q) : TabS H' P q := by
  obtain ⟨ps, h1, h2, h3⟩ := t
  exact ⟨ps, e _ _ (fun _ z => by cases z) h1, h2, fun pos cv hc => let ⟨c, e1, e2⟩ := h3 pos cv hc; ⟨c, e1, e _ _ co_list e2⟩⟩
structure HasTab (F : Fm) (P : Addr) (q : Str) : Prop where
  t : ∀ a o, Tb o → F.C a o
  d : ∀ H, F.J H → ∀ a, F.S a → ∃ o, H a = some o ∧ ¬ Tb o
  ok : ∀ H, F.J H → TabS H P q
  back : ∀ H H1, ExtN H H1 → TabS H1 P q → F.J H → F.J H1
def Fm.rowT (K : PySem.W.Frag) (S : AS) (r scr : Addr) (hr : S r) (P : Addr) (q : Str) : Fm := ⟨S, fun a o => a = r ∨ Tb o, fun H => RowOk K S r scr H ∧ TabS H P q ∧ ∀ a, S a → ∃ o, H a = some o ∧ ¬ Tb o,
  fun a o z => z.imp (fun z => by subst z; exact hr) id, fun H H' e h => ⟨h.1.same hr fun a o _ q => e.k a o (fun z => z) q, h.2.1.ext fun b o x => e.k b o (fun z => z) x, fun a s => let ⟨o, h1, h2⟩ := h.2.2 a s; ⟨o, e.k a o (fun z => z) h1, h2⟩⟩⟩
theorem hasRowT {K : PySem.W.Frag} {S : AS} {r scr P : Addr} {q : Str} {hr : S r} : HasRow (Fm.rowT K S r scr hr P q) K r := ⟨hr, fun _ => .inl rfl,
  fun H H' e h => ⟨h.1.same hr fun a o s => e a o (.inl s), tabS_keep (fun b o n => e b o (.inr n)) h.2.1, fun a s => let ⟨o, h1, h2⟩ := h.2.2 a s; ⟨o, e a o (.inl s) h1, h2⟩⟩,
  fun H h => ⟨scr, h.1, fun H' e h' => by
    obtain ⟨i, s, c, _, _, _, _, hrow⟩ := h.1.row
    obtain ⟨i', s', c', _, _, _, _, hrow'⟩ := h'.row
    refine ⟨h', tabS_keep (fun b o n x => e.k b o (fun z => ?_) x) h.2.1, fun a sa => ?_⟩
    · subst z
      rw [hrow] at x
      exact n _ (Option.some.inj x).symm
    · by_cases z : a = r
      · subst z
        exact ⟨_, hrow', nTl⟩
      · obtain ⟨o, h1, h2⟩ := h.2.2 a sa
        exact ⟨o, e.k a o z h1, h2⟩⟩⟩
theorem hasTabT {K : PySem.W.Frag} {S : AS} {r scr P : Addr} {q : Str} {hr : S r} : HasTab (Fm.rowT K S r scr hr P q) P q := ⟨fun a o z => .inr z, fun H h => h.2.2, fun H h => h.2.1, fun H H1 e t h => by
  have kp : ∀ a o, S a → H a = some o → H1 a = some o := fun a o s x => by
    obtain ⟨u, h1, h2⟩ := h.2.2 a s
    rw [x] at h1
    cases h1
    exact e a o x fun ps z => h2 ⟨ps, z⟩
  exact ⟨h.1.same hr kp, t, fun a s => let ⟨o, h1, h2⟩ := h.2.2 a s; ⟨o, kp a o s h1, h2⟩⟩⟩
section
variable {F : Fm} {X : Cx} {δ : DE} {k : PyData → Prop}
/-- f(lambda: body), f one that runs it -/
theorem ve_lam {TT : (XK → Hp → VK → Prop) → Hp → VK → Prop} {x a : Str} {g c P : Addr} {j n : Nat} {pg : Arguments} {bg : List Stmt} {sg : Scope} {dV kV doc pm cdv ct oc : Value} {an od : Option Addr} {osl : Array (Option Value)} {Ng : List Str}
    {params : Arguments} {body : Expr} {scope : Scope} {t : XK → TE} {p lpos pos : Pos} (hT : HasTab F P (X.env.qual ++ "<lambda>")) (TB : TabB X.base X.mg c P) (hcode : X.env.code = .ref c) (hr : Room n X.A) (hj : j + 2 ≤ n) (L : LamS X.env.scope scope)
    (hm : X.mg x = some (.ref g)) (hk : PySem.W.keepIn X.K (.ref g) = true) (lk : X.K.lookup g = some ⟨oc, od, .func (PySem.W.fnOf x x pg bg sg dV kV doc pm an cdv ct), osl⟩) (hcg : PySem.W.codeIn X.K cdv x = true)
    (hb : L2.Binds X.K (PySem.W.fnOf x x pg bg sg dV kV doc pm an cdv ct) [a] []) (Sg : FnScope Ng [a] sg) (hNg : Ng[0]? = some a) (hva : Vis sg a) (hG : GivesTo X Ng x sg g cdv bg a (X.env.qual ++ "<lambda>") TT)
    (hbody : ∀ (A : Around) (outer : List Env) (s : Shared) (H : Hp) (E : XK) (f c' : Addr), Room j (A.deeper (lamEnv X scope s.heap.objs.size f c')) → PE (lamCx X A outer s H E scope f c') body (t E))
    (hdo : ∀ (σ : L2.St) (H : Hp) (Q : VK), F.ok H → StD X.K F.S H σ δ → (∀ (v : V) (H' : Hp) (d : PyData), Xt F.C H H' → F.ok H' → Dn X.K F.S H' v d → k d → Q v H') → TT (fun E H' Q' => t E σ H' Q') H Q)
    (hdef : defaultsOf params X.env = ([], []) := by rfl) (hbind : ∀ (q : Str) (cl : List (Str × Addr)) (pm cv ctv : Value), bindArgs (PySem.W.kla_fn "<lambda>" q params body scope cl pm cv ctv) ⟨[], []⟩ = pure [] := by intros; rfl)
    (hg : Gl X x := by rfl) (hdb : (x == ("__debug__" : Str)) = false := by decide) (hd : (a == ("__debug__" : Str)) = false := by decide) (hcd : (a == ("__classdict__" : Str)) = false := by decide) :
    VE F X (.Call (.Name x p) [.Lambda params body scope lpos] [] pos) δ k := fun σ H Q o s q => by
  refine (pe_lamcall (T := [(P, X.env.qual ++ "<lambda>")]) hg hm hk lk hcg hb Sg hNg hva hG TB hcode (.head _) (fun z hz e => ?_) (hr.mono hj) L hdef hbind hbody hdb hd hcd).sem ?_
  · rcases List.mem_singleton.mp hz with rfl
    rfl
  · refine ⟨fun z hz => ?_, fun H1 eN T1 => ?_⟩
    · rcases List.mem_singleton.mp hz with rfl
      exact hT.ok H o.1
    · have j1 : F.J H1 := hT.back H H1 eN (T1 _ (.head _)) o.1
      have e1 : Xt F.C H H1 := ⟨fun b u nc x => eN b u x fun ps z => nc (hT.t b u ⟨ps, z⟩)⟩
      have o1 : F.ok H1 := ⟨j1, fun b sb z => by
        obtain ⟨u, h1, _⟩ := hT.d H1 j1 b sb
        rw [h1] at z; cases z⟩
      exact hdo σ H1 Q o1 (o.all s e1) fun v H' d e2 => q v H' d (e1.trans e2)
end
/-! ### a law whose lambdas are made of its own code -/
section
variable {P : Program} {w : World} {K : PySem.W.Frag} {mg : Str → Option Value} {base : Heap}
def spLawT (K : PySem.W.Frag) (T : Addr) : Sp := fun vs H Q _ => ∃ (a : Addr) (ns : List Int), vs = [.ref a] ∧ SqL K H a (ns.map V.int) ∧ ns.length ≤ 63 ∧ H T = some (.tbl #[]) ∧ ∀ H', Q (.bl true) H'
theorem lawT_of {st : Stmt} {N : List Str} {k : Nat} {c : Int} {f T c₁ : Addr} {fd : FuncData} {q : Str} {rest : List Stmt} {p1 p2 p3 p4 p5 p6 p7 : Pos} {j1 j2 j3} (Fu : Fun K "law" "law" st f fd) (S : FnScope N ["script"] (defScope st)) (hc : fd.code = .ref c₁) (c0 : 0 ≤ c) (c1 : c < 2147483647)
    (hbody : defBody st = .Assign [.Name "row" p1] (.List [.Name "script" p2, .Constant (.int 0) j1 p3, .Constant (.int c) j2 p4, .Constant (.int 0) j3 p5] p6) p7 :: rest) (h0 : N[0]? = some (("script" : Str))) (h1 : N[1]? = some ("row" : Str)) (hv0 : (defScope st).names.lookup ("script" : Str) = some .local) (hv1 : (defScope st).names.lookup ("row" : Str) = some .local ∨ (defScope st).names.lookup ("row" : Str) = some .cell)
    (h : ∀ (f : Addr) (A' : Around) (outer : List Env) (s : Shared) (H : Hp) (E : XK) (F : Fm) (r a : Addr), Room k (A'.deeper (envOfC "law" (defScope st) s.heap.objs.size f (.ref c₁))) → HasRow F K r → HasTab F T q →
      VS F (cxOf CX0 P w K mg base N "law" (defScope st) f (.ref c₁) A' outer s H E).nox rest ((startD N [.raw (.ref a)]).set 1 (some (.raw (.ref r)))) { nx := fun _ => False, rt := fun y => y = .bool true })
    (hsw : ∀ (X : Cx), swapsWith (.List [.Name "script" p2, .Constant (.int 0) j1 p3, .Constant (.int c) j2 p4, .Constant (.int 0) j3 p5] p6) (some (.Name "row" p1)) p7.line X.env = pure false) (hst : ∀ (X : Cx), X.env.scope = defScope st → starEach [.Name "script" p2, .Constant (.int 0) j1 p3, .Constant (.int c) j2 p4, .Constant (.int 0) j3 p5] X.env = (false, eval (.Name "script" p2) X.env) :: starEach [.Constant (.int 0) j1 p3, .Constant (.int c) j2 p4, .Constant (.int 0) j3 p5] X.env) :
    FnOk P w K mg base CX0 (k + 1) f fd ["script"] (spLawT K T) := by
  obtain ⟨oc, od, kV, doc, pm, an, cdv, ct, osl, rfl, lk, hcd⟩ := Fu.ex
  obtain rfl : cdv = .ref c₁ := hc
  refine fn_of lk hcd S ?_ fun A' outer s H vs Q E hr hs => ?_
  · rintro vs H Q E ⟨a, ns, rfl, _⟩; rfl
  · obtain ⟨a, ns, rfl, hsq, hl, hT, hq⟩ := hs
    suffices hh : ∃ t, PSs (cxOf CX0 P w K mg base N "law" (defScope st) f (.ref c₁) A' outer s H E).nox (defBody st) t ∧ t { nx := fun _ H' => Q .non H', rt := Q } (L2.start N [.ref a]) H by
      obtain ⟨t, z1, z2⟩ := hh
      exact ⟨t, z1.nox, z2⟩
    rw [hbody]
    generalize hX : (cxOf CX0 P w K mg base N "law" (defScope st) f (.ref c₁) A' outer s H E).nox = X
    have hXN : X.N = N := by subst hX; rfl
    have hXs : X.env.scope = defScope st := by subst hX; rfl
    have hXfn : X.fn "row" = true := by subst hX; rfl
    have nd : X.N.Nodup := by rw [hXN]; exact S.nd
    refine ⟨_, pss_cons (ps_set (i := 1) nd (by rw [hXN]; exact h1) (by unfold L2.Loc; rw [hXs]; exact hv1) (pe_lst (pa_cons (pe_var (i := 0) (by rw [hXN]; exact h0) (.inl (by rw [hXs]; exact hv0))) (pa_cons pe_int (pa_cons pe_int (pa_cons pe_int pa_nil))) (hst X hXs))) (hsw X) (.inl hXfn)) (pss_sem X rest), ?_⟩
    refine ⟨_, rfl, by show 4 ≤ sizeLine; decide, fun p hp => ?_⟩
    have ne : ∀ u, H a = some u → a ≠ p := fun u e z => by rw [z, hp] at e; cases e
    have xt : Xt C0 H (upd H p (.lst [.ref a, .int 0, .int c, .int 0])) := .new hp
    have hS : (fun b => b = p ∨ (b = a ∧ Rd H a (.lst (ns.map V.int)))) p := .inl rfl
    have row : RowOk K (fun b => b = p ∨ (b = a ∧ Rd H a (.lst (ns.map V.int)))) p a (upd H p (.lst [.ref a, .int 0, .int c, .int 0])) := by
      refine ⟨⟨0, c, 0, by decide, c0, c1, by decide, upd_same⟩, ns, hl, ?_⟩
      rcases hsq with h | h
      · refine .inl ⟨.inr ⟨rfl, h⟩, fun z => ?_, rd_mono xt (fun _ _ z => z) nTl h⟩
        exact rd_some h (z ▸ hp)
      · exact .inr (.inr h)
    have stand : ∀ b, (b = p ∨ (b = a ∧ Rd H a (.lst (ns.map V.int)))) → ∃ o, upd H p (.lst [.ref a, .int 0, .int c, .int 0]) b = some o ∧ ¬ Tb o := fun b hb => by
      by_cases e : b = p
      · subst e; exact ⟨_, upd_same, nTl⟩
      · rcases hb with hb | ⟨rfl, hb⟩
        · exact absurd hb e
        · rw [upd_ne e]
          rcases hb with z | ⟨o, z⟩
          · exact ⟨_, z, nTl⟩
          · exact ⟨_, z, fun ⟨_, z⟩ => by cases z⟩
    have hbod := h f A' outer s H E (Fm.rowT K (fun b => b = p ∨ (b = a ∧ Rd H a (.lst (ns.map V.int)))) p a hS T q) p a hr hasRowT hasTabT
    rw [hX] at hbod
    have ok : (Fm.rowT K (fun b => b = p ∨ (b = a ∧ Rd H a (.lst (ns.map V.int)))) p a hS T q).ok (upd H p (.lst [.ref a, .int 0, .int c, .int 0])) := ⟨⟨row, (TabS.nil hT).ext fun b o x => xt.k b o (fun z => z) x, stand⟩, fun b hb => by
      rcases hb with rfl | ⟨rfl, hb⟩
      · rw [upd_same]; exact fun z => by cases z
      · by_cases e : b = p
        · subst e; exact absurd hp (rd_some hb)
        · rw [upd_ne e]; exact rd_some hb⟩
    have sd : StD X.K (Fm.rowT K (fun b => b = p ∨ (b = a ∧ Rd H a (.lst (ns.map V.int)))) p a hS T q).S (upd H p (.lst [.ref a, .int 0, .int c, .int 0])) ((L2.start N [.ref a]).set 1 (some (.ref p))) ((startD N [.raw (.ref a)]).set 1 (some (.raw (.ref p)))) :=
      (std_start (ss := [.raw (.ref a)]) (.cons rfl .nil)).set (s := .raw (.ref p)) 1 rfl
    exact hbod _ _ _ ok sd ⟨fun _ _ _ _ _ _ z => z.elim, fun _ _ _ _ _ _ z => z.elim, fun _ _ _ _ _ _ z => z.elim, fun v H' d _ _ n hd => by
      subst hd
      cases n
      exact hq _⟩
end
end Dl
set_option Elab.async false
set_option linter.all false
set_option maxRecDepth 100000
set_option maxHeartbeats 4000000
namespace Dl
open PySem PySem.Spec PyProof.Rows L2 LamX
/-! ### the end of a law whose lambdas are made of its own code -/
theorem walk_own {l : PySem.W.OpenLaw} {n k : Nat} {q : Program} {loose : List Str} {XP : (Str → Option Value) → Heap → Prop} {YP : World → Heap → Prop} {d e : DefRec} {K : Params → PySem.W.Frag} {c T : Addr}
    (hn : l.most = some n) (hn2 : n ≤ 63) (hdf : d.params.defaults = []) (hr : Room k callerA) (hY : ∀ (w : World) (h : Heap), YP w h → (K w.params).In h)
    (hd : (recsOf q).find? (fun e => e.name == d.name) = some e) (ht : ∀ w : World, PySem.W.tabIn (K w.params) d.name = some (c, T)) (nT : ∀ w : World, (K w.params).lookup T = none)
    (F : ∀ (w : World) (mg : Str → Option Value) (fa : Addr) (h : Heap), (K w.params).In h → h.Ns mainGlobals mg → mg d.name = some (.ref fa) →
      ∃ fd : FuncData, (∀ (s : Shared) (u : Value), BindsTo s fd ⟨[u], []⟩ [("script", u)]) ∧ ∀ base : Heap, (K w.params).In base → base.Ns mainGlobals mg → TabB base mg c T → FnOk l.prog w (K w.params) mg base CX0 k fa fd ["script"] (spLawT (K w.params) T)) :
    PySem.W.WalkO q loose XP YP l.row.toRowW d [] (fun f vs => PySem.call f vs) := by
  refine Att.attach_callB hn hdf fun w s₀ s₁ mg mb fa o pm cd doc a vs ns G Y ho hod hcd hmg hobj hints hlen hbits hg => ?_
  have KX := hY w _ Y
  obtain ⟨g1, g2⟩ := PySem.W.tab_of G.T KX hd (ht w)
  obtain ⟨fd, hb, hF⟩ := F w mg fa _ KX G.T.g hmg
  have one : ∀ p ∈ [(c, T)], p = (c, T) := fun p hp => List.mem_singleton.mp hp
  exact law_callTs (cs := [(c, T)]) KX G.T.g G.T.b G.T.builtins G.T.nolimit hg (fun p hp => by rw [one p hp]; exact g2) (fun p hp => by rw [one p hp]; exact nT w) (fun p hp => by rw [one p hp]; exact g1) G.T.bmain hobj hints
    (Nat.le_trans hlen (Nat.le_trans hn2 (by decide))) hr (fun base h1 h2 h3 => hF base h1 h2 (h3 _ (.head _))) hb (fun H hH hS => ⟨a, ns, rfl, hS, Nat.le_trans hlen hn2, hH _ (.head _), fun _ => rfl⟩) fun _ _ _ h => h
/-! ### lambda: f(a, b, ..) of names that hold data, f one that raises -/
/-- an own class of errors, a class above it that is caught -/
structure Err2 (K : PySem.W.Frag) (mg : Str → Option Value) (x r : Str) (C R : Addr) : Prop where
  a : ExcAt K mg x C
  r : mg r = some (.ref R)
  e : PySem.W.exmOne K (.ref C) (.ref R) = some true
  c : ExcC K C
  k : PySem.W.kitOne K (.ref C) (.ref C) = some true
theorem err2_of {K : PySem.W.Frag} {mg : Str → Option Value} {x r : Str} {C R : Addr} (a : ExcAt K mg x C) (g : mg r = some (.ref R)) (b1 : PySem.W.subIn K (.ref R) (.type "BaseException") = some true) (t1 : PySem.W.typeIn K (.ref R) = some (.type "type"))
    (i1 : PySem.W.isClsIn K R = true) (s1 : PySem.W.subIn K (.ref C) (.ref R) = some true) (c : ExcC K C) : Err2 K mg x r C R := ⟨a, g, by
  have i2 : (PySem.W.clsIn K R).isSome = true := i1
  unfold PySem.W.exmOne
  rw [b1, if_pos (by decide)]
  unfold PySem.W.kitCls
  show (if ((PySem.W.clsIn K R).isSome && PySem.W.typeIn K (.ref R) == some (.type "type")) = true then _ else _) = _
  rw [i2, t1, if_pos (by decide)]
  exact s1, c, by
  unfold PySem.W.kitOne
  rw [if_pos (by simp)]⟩
theorem tabIn_of {K : PySem.W.Frag} {x : Str} {f c T : Addr} {oc oc2 : Value} {od od2 : Option Addr} {sl sl2 : Array (Option Value)} {fd : FuncData} {vs : Array Value} (h1 : PySem.W.nsIn K mainGlobals x = some (some (.ref f))) (h2 : K.lookup f = some ⟨oc, od, .func fd, sl⟩) (h3 : fd.code = .ref c)
    (h4 : K.lookup c = some ⟨oc2, od2, .fields vs, sl2⟩) (h5 : vs[11]? = some (.ref T)) : PySem.W.tabIn K x = some (c, T) := by
  unfold PySem.W.tabIn
  rw [h1]
  show (match K.lookup f with | some ⟨_, _, .func fd, _⟩ => _ | _ => none) = _
  rw [h2]
  show (match fd.code with | .ref c => _ | _ => none) = _
  rw [h3]
  show (match K.lookup c with | some ⟨_, _, .fields vs, _⟩ => _ | _ => none) = _
  rw [h4]
  show (match (vs[11]? : Option Value) with | some (.ref P) => some (c, P) | _ => none) = _
  rw [h5]
end Dl
set_option Elab.async false
set_option linter.all false
set_option maxRecDepth 100000
set_option maxHeartbeats 4000000
set_option exponentiation.threshold 5000
/-! Fx: in which formats the rules hold; the numbers that break the others -/
namespace Fx
open PySem PySem.Spec PyProof.Rows L2 Dl
def Mode.near (m : Mode) : Bool := m == .even || m == .away
def leastU (f : Form) : Int := if f.g then 1 else nrm f
def brkErr (f : Form) : List Int :=
  if f.g = false then [nrm f + 1, -nrm f]
  else if f.inf = true ∧ f.mode ≠ .zero then (if f.mode = .down then [-top f, -top f] else [top f, top f])
  else if f.mode = .up then [nrm f * 2 ^ f.e, 1] else [nrm f * 2 ^ f.e + 2 ^ f.e, -1]
def brkAbs (f : Form) : List Int := match f.mode with
  | .down => [top f, leastU f]
  | .zero => [top f, leastU f]
  | .up => [-top f, -leastU f]
  | .even => if f.inf = false then [top f, top f] else if f.g = true then [2 * nrm f, 1] else [nrm f * 2 ^ f.p, nrm f]
  | .away => if f.inf = false then [top f, top f] else if f.g = true then [2 * nrm f + 2, -1] else [(nrm f + 1) * 2 ^ f.p, -nrm f]
/-- numbers, in units, that break the rule -/
def brk (f : Form) : Rule → List Int
  | .sumSign => [nrm f, nrm f + 1]
  | .zeroDiff => if f.mode = .up then [nrm f, nrm f + 1] else [nrm f + 1, nrm f]
  | .closeDiff => [nrm f + 1, nrm f]
  | .errTerm => brkErr f
  | .fastErr => brkErr f
  | .symm => if f.g = false then [nrm f + 1, -nrm f] else if 0 < f.e then [2 * nrm f, 1] else [top f, top f]
  | .midp => [nrm f, nrm f + nrm f / 2]
  | .aver => []
  | .addBack => if f.g = false then [nrm f + 1, nrm f] else [2 * nrm f + 2, 1]
  | .group => [nrm f + 1, nrm f + 1, nrm f]
  | .absorb => brkAbs f
  | .third => if f.mode.near = true then [2 * nrm f - 2] else [nrm f + 1]
  | .halves => [leastU f]
  | .squares => [leastU f]
set_option maxHeartbeats 0
set_option maxHeartbeats 4000000
end Fx
set_option Elab.async false
set_option linter.all false
set_option maxRecDepth 100000
set_option maxHeartbeats 4000000
set_option exponentiation.threshold 5000
namespace Fx
open PySem PySem.Spec PyProof.Rows L2 Dl
end Fx
set_option Elab.async false
set_option linter.all false
set_option maxRecDepth 100000
set_option maxHeartbeats 4000000
namespace Dl
open PySem PySem.Spec PyProof.Rows L2 Fx
/-! ### a local name called -/
/-! ### a dict of the body's own, its keys rules -/
theorem rule_inj {q r : Rule} : (Sum.inr q.s : Key) = .inr r.s ↔ q = r := by
  constructor
  · intro h
    have h2 : q.s = r.s := Sum.inr.inj h
    exact of_decide_eq_true ((dec_rule q r).symm.trans (decide_eq_true h2))
  · rintro rfl; rfl
abbrev RL := List (Rule × PyData)
def getR : RL → Rule → Option PyData
  | [], _ => none
  | (q, d) :: l, r => if q = r then some d else getR l r
def KvR (K : PySem.W.Frag) (S : AS) (H : Hp) (kvs : List (Key × V)) (L : RL) : Prop := kvs.length ≤ L.length ∧ ∀ r d, getR L r = some d → ∃ v, valV kvs (.inr r.s) = some v ∧ Dn K S H v d
theorem KvR.put {K : PySem.W.Frag} {S : AS} {H : Hp} {kvs : List (Key × V)} {L : RL} (h : KvR K S H kvs L) {q : Rule} {v : V} {d : PyData} (n : Dn K S H v d) : KvR K S H (putK kvs (.inr q.s) v) ((q, d) :: L) := by
  refine ⟨Nat.le_trans (DSub.putK_len _ _ _) (Nat.succ_le_succ h.1), fun r e hr => ?_⟩
  rw [valV_put]
  unfold getR at hr
  by_cases z : q = r
  · rw [if_pos z] at hr
    cases hr
    rw [if_pos (rule_inj.mpr z.symm)]
    exact ⟨v, rfl, n⟩
  · rw [if_neg z] at hr
    rw [if_neg (fun y => z (rule_inj.mp y).symm)]
    exact h.2 r e hr
theorem KvR.mono {K : PySem.W.Frag} {S : AS} {C : CS} {H H' : Hp} {kvs : List (Key × V)} {L : RL} (h : KvR K S H kvs L) (hC : ∀ a o, C a o → S a ∨ Tb o) (e : Xt C H H') : KvR K S H' kvs L := ⟨h.1, fun r d hr => let ⟨v, h1, h2⟩ := h.2 r d hr; ⟨v, h1, Dn.mono hC e _ _ h2⟩⟩
/-! the display -/
inductive VPs (F : Fm) (X : Cx) (δ : DE) : List (Option Expr) → List Expr → RL → Prop
  | nil : VPs F X δ [] [] []
  | cons (q : Rule) {i : Nat} {p : Pos} {v : Expr} {d : PyData} {ks : List (Option Expr)} {vs : List Expr} {L : RL} : VD F X v δ d → VPs F X δ ks vs L → VPs F X δ (some (.Constant (.str q.s) i p) :: ks) (v :: vs) ((q, d) :: L)
def kvR (L : RL) (vs : List V) : List (Key × V) := List.zipWith (fun p v => (Sum.inr p.1.s, v)) L vs
theorem VPs.run {F : Fm} {X : Cx} {δ : DE} {pos : Pos} : ∀ {ks : List (Option Expr)} {vs : List Expr} {L : RL}, VPs F X δ ks vs L → ∃ trs, PPs X pos ks vs trs ∧ ∀ (σ : L2.St) (H : Hp) (Q : List (V × V) → Hp → Prop), F.ok H → StD X.K F.S H σ δ →
    (∀ H' ws, Xt F.C H H' → F.ok H' → DnAll X.K F.S H' ws (L.map (·.2)) → Q ((kvR L ws).map fun kv => (kV kv.1, kv.2)) H') → tPairs trs σ H Q
  | _, _, _, .nil => ⟨[], pps_nil, fun σ H Q o s q => q H [] (.refl H) o .nil⟩
  | _, _, _, .cons (q := q) (d := d) (L := L) hv hr => by
    obtain ⟨trs, h1, h2⟩ := hr.run (pos := pos)
    refine ⟨_, pps_cons pe_str (pe_sem X _) h1, fun σ H Q o s k => ?_⟩
    refine hv σ H _ o s fun v H1 d' e1 o1 n1 kd => ?_
    subst kd
    refine h2 σ H1 _ o1 (o.all s e1) fun H' ws e2 o2 n2 => ?_
    exact k H' (v :: ws) (e1.trans e2) o2 (.cons (Dn.mono F.sub e2 _ _ n1) n2)
end Dl
set_option Elab.async false
set_option linter.all false
set_option maxRecDepth 100000
set_option maxHeartbeats 4000000
namespace Dl
open PySem PySem.Spec PyProof.Rows L2
end Dl
set_option Elab.async false
set_option linter.all false
set_option maxRecDepth 100000
set_option maxHeartbeats 4000000
namespace Dl
open PySem PySem.Spec PyProof.Rows L2 LamX
/-! ### expressions that raise -/
section
variable {F : Fm} {X : Cx} {δ : DE} {k : PyData → Prop} {e a b : Expr} {es : List Expr} {pos : Pos} {rest body orelse : List Stmt} {p : Hp → Prop}
/-- the expression raises, wherever p holds -/
def VEX (F : Fm) (X : Cx) (e : Expr) (δ : DE) (p : Hp → Prop) : Prop := ∀ (σ : L2.St) (H : Hp) (Q : VK), F.ok H → StD X.K F.S H σ δ → (∀ H', Xt F.C H H' → F.ok H' → p H') → semE X e σ H Q
theorem vx_exX (he : VEX F X e δ p) (hs : swapsWith e none pos.line X.env = pure false := by rfl) : VX F X (.Expr e pos :: rest) δ p := fun σ H D o s q =>
  (pss_cons (ps_expr (pe_sem X e) hs) (pss_sem X rest)).sem (he σ H _ o s q)
theorem vx_retX (he : VEX F X e δ p) : VX F X (.Return (some e) pos :: rest) δ p := fun σ H D o s q =>
  (pss_cons (ps_ret (pe_sem X e)) (pss_sem X rest)).sem (he σ H _ o s q)
/-- f(args), f one that raises -/
theorem vex_call {B : List PyData → Prop} {j n : Nat} {C : Addr} {E : XK} {x : Str} {px : Pos} (G : Df X.prog X.w X.K X.mg X.base x j (spX X.K C B)) (hr : Room n X.A) (hj : j ≤ n) (tk : Takes X (fun cls d _ H => E cls d H)) (ha : VA F X (e :: es) δ B) (hw : ∀ H', p H' → E (.ref C) none H') (hg : Gl X x := by rfl) (hdb : (x == ("__debug__" : Str)) = false := by decide)
    (hs : starEach (e :: es) X.env = (false, eval e X.env) :: starEach es X.env := by rfl) (hpl : (backTo pos (starEach es X.env)).any (·.1) = false := by rfl) : VEX F X (.Call (.Name x px) (e :: es) [] pos) δ p := fun σ H Q o s q => by
  obtain ⟨f, fd, ps, G1, G2, G3, G4⟩ := G.ex
  refine (pe_call (X := X) (CX := L2.CX X.prog X.w) (E := E) G1 (hr.mono hj) hg G2 G3 G4 .nil (passes_call tk fun cls d σ H h => h) (pa_sem X (e :: es)) hdb hs hpl).sem ?_
  refine ha σ H _ o s fun vs H' ds e' o' nv hB => ?_
  show spX X.K C B (vs ++ []) H' _ _
  rw [List.append_nil]
  exact ⟨F.S, ds, o'.2, nv, hB, fun H2 e2 => hw H2 (q H2 (e'.trans e2.of0) (o'.mono e2))⟩
end
/-! ### lambdas that raise, handed to a def that tells the error's word -/
/-- try: a() / except R as n: body / return z -/
def TWr (C : Addr) (v z : V) : (XK → Hp → VK → Prop) → Hp → VK → Prop := fun tl H Q => tl (fun cls d H' => cls = .ref C ∧ d = none ∧ ∀ H'', Xt C0 H' H'' → Q v H'') H (fun _ H' => Q z H')
/-- isinstance(n, M) in the handler's suite -/
theorem vd_isE {F : Fm} {X : Cx} {δ : DE} {x C M : Addr} {oe : Obj} {pn : List (Addr × Obj)} {n m : Str} {p1 p2 p3 p4 : Pos} {t : Bool} (hC : ExcC X.K C) (hz : Zc (.ref C) none oe) (hf : ∃ vs, oe.data = .fields vs) (hmi : X.mg "isinstance" = none) (hm : X.mg m = some (.ref M)) (hk : PySem.W.kitOne X.K (.ref C) (.ref M) = some t)
    (hd : δ[1]? = some (some (.raw (.ref x))) := by rfl) (hN : (X.suite x ((x, oe) :: pn)).N[1]? = some n := by rfl) (hv : Vis (X.suite x ((x, oe) :: pn)).env.scope n := by first | exact Or.inl rfl | exact Or.inr (Or.inl rfl)) (hdn : (n == ("__debug__" : Str)) = false := by decide) (hcn : (n == ("__classdict__" : Str)) = false := by decide)
    (hgi : Gl (X.suite x ((x, oe) :: pn)) "isinstance" := by rfl) (hgm : Gl (X.suite x ((x, oe) :: pn)) m := by rfl) (hdm : (m == ("__debug__" : Str)) = false := by decide)
    (hs : starEach [.Name n p2, .Name m p3] (X.suite x ((x, oe) :: pn)).env = (false, eval (.Name n p2) (X.suite x ((x, oe) :: pn)).env) :: starEach [.Name m p3] (X.suite x ((x, oe) :: pn)).env := by rfl) (hpl : (backTo p4 (starEach [.Name m p3] (X.suite x ((x, oe) :: pn)).env)).any (·.1) = false := by rfl) :
    VD F (X.suite x ((x, oe) :: pn)) (.Call (.Name "isinstance" p1) [.Name n p2, .Name m p3] [] p4) δ (.bool t) := fun σ H Q o s q => by
  obtain ⟨v, h1, h2⟩ := s.at_ 1 _ hd
  have h2' : v = .ref x := h2
  subst h2'
  refine (pe_callB (call_isE (X := X) (a := x) (pn := pn) hC hz hf) hgi hmi (by decide +kernel) (pa_cons (pe_var (i := 1) hN hv hdn hcn) (pa_cons (pe_glob (v := .ref M) hgm hm rfl hdm) pa_nil)) (by decide) (by decide) hs hpl).sem ?_
  exact ⟨_, h1, .ref M, .ref M, t, rfl, fun u r => r, hk, q (.bl t) H (.bool t) (.refl H) o (.bl t) rfl⟩
theorem wr_gives {X : Cx} {a e n q gname z w : Str} {N' : List Str} {sg : Scope} {g R C : Addr} {cdg : Value} {j : Nat} {b₀ : Stmt} {suite : List Stmt} {p1 p2 p3 p4 p10 p11 p12 p13 : Pos} (hae : (a :: n :: N').Nodup) (hge : sg.names.lookup e = some .globalImplicit) (hme : X.mg e = some (.ref R)) (hde : (e == ("__debug__" : Str)) = false)
    (hn : sg.names.lookup n = some .local) (hx : PySem.W.exmOne X.K (.ref C) (.ref R) = some true)
    (hB : ∀ (s : Shared) (H : Hp) (x : Addr) (oe : Obj) (pn : List (Addr × Obj)), Zc (.ref C) none oe → (∃ vs, oe.data = .fields vs) →
      VS (Fm.pure fun _ => False) ((cxOf C8.CX0 X.prog X.w X.K X.mg X.base (a :: n :: N') gname sg g cdg X.A X.stack s H C8.E0).nox.suite x ((x, oe) :: pn)) (b₀ :: suite) (none :: some (.raw (.ref x)) :: List.replicate N'.length none) { nx := fun _ => False, rt := fun d => d = .str w }) :
    GivesTo X (a :: n :: N') gname sg g cdg [.Try [.Expr (.Call (.Name a p1) [] [] p2) p3] [.ExceptHandler (some (.Name e p4)) (some n) (b₀ :: suite) p10] [] [] p11, .Return (some (.Constant (.str z) j p12)) p13] a q (TWr C (.str w) (.str z)) := by
  intro f c' s H Q tl act hc h
  refine ⟨_, pss_cons (ps_try_as (X := (cxOf C8.CX0 X.prog X.w X.K X.mg X.base (a :: n :: N') gname sg g cdg X.A X.stack s H C8.E0).nox) (i := 1) (c := .ref R)
      (tb := fun W D σ H => ∃ Ech : XK, (∀ cls d σ' H', Ech cls d H' → W cls d σ' H') ∧ σ[0]? = some (some (.ref f)) ∧ H c' = some (CodeO c' q) ∧ tl Ech H (fun _ H' => D.nx σ H'))
      (ts := fun a cls d D σ H => cls = .ref C ∧ d = none ∧ (∃ σ0, σ = List.set σ0 1 (some (.ref a))) ∧ ∀ H'', Xt C0 H H'' → D.rt (.str w) H'')
      rfl rfl hae rfl ?_ ⟨hge, hde, .inl hme⟩ L2.takes0 (fun W pn xe tk _ => ?_) (fun x oe cls d pn hz hf => ?_)) (pss_one (ps_ret pe_str)), ?_⟩
  · exact hn
  · refine ⟨fun pn₂ sh τ K₂ D₂ J w₂ => ?_⟩
    obtain ⟨E₂, leads, slot, code, told⟩ := w₂
    exact (pss_one (ps_expr (pos := p3) (act W pn xe E₂ p1 p2 tk leads))).run pn₂ sh τ K₂ D₂ J ⟨slot, code, told⟩
  · refine ⟨fun pins s' σ H' D I held => ?_⟩
    obtain ⟨rfl, rfl, ⟨σ0, rfl⟩, h2⟩ := held
    have hl : (List.set σ0 1 (some (V.ref x))).length = N'.length + 2 := I.len
    have h1 : (List.set σ0 1 (some (V.ref x)))[1]? = some (some (V.ref x)) := by
      rw [List.length_set] at hl
      rw [List.getElem?_set_self (by omega)]
    refine hB s H x oe pn hz hf _ H' D ⟨trivial, fun _ z => z.elim⟩ ⟨?_, fun i sl hi => ?_⟩ ⟨fun _ _ _ _ _ _ z => z.elim, fun _ _ _ _ _ _ z => z.elim, fun _ _ _ _ _ _ z => z.elim, fun v H2 d e2 _ nv hd => ?_⟩ pins s' I
    · rw [hl]; simp
    · match i, hi with
      | 0, hi => simp at hi
      | 1, hi =>
        have : sl = .raw (.ref x) := by simpa using hi.symm
        subst this
        exact ⟨_, h1, rfl⟩
      | i + 2, hi =>
        exfalso
        have hi' : (List.replicate N'.length (none : Option Sl))[i]? = some (some sl) := hi
        rw [List.getElem?_replicate] at hi'
        split at hi' <;> cases hi'
    · subst hd
      have := nv.sc (w := .str w) rfl
      subst this
      exact h2 H2 e2
  · refine ⟨fun cls d H' => cls = .ref C ∧ d = none ∧ ∀ H'', Xt C0 H' H'' → Q (.str w) H'', fun cls d σ' H' ⟨e1, e0, e2⟩ => ?_, rfl, hc, h⟩
    subst e1
    exact ⟨true, hx, fun _ a ha => ⟨rfl, e0, ⟨_, rfl⟩, e2⟩, fun z => by cases z⟩
section
variable {F : Fm} {X : Cx} {δ : DE}
/-- x(lambda: body), the body raises -/
theorem vd_wr {x a e n z w cn : Str} {N' : List Str} {st : Stmt} {C R c P : Addr} {j1 j nn : Nat} {b₀ : Stmt} {suite : List Stmt} {be : Expr} {params : Arguments} {sc scope : Scope} {p lpos pos p1 p2 p3 p4 p10 p11 p12 p13 : Pos}
    (hT : HasTab F P (X.env.qual ++ "<lambda>")) (TB : TabB X.base X.mg c P) (hcode : X.env.code = .ref c) (hr : Room nn X.A) (hj : j + 2 ≤ nn) (hsc : X.env.scope = sc) (L : lamSB sc scope = true) (er : Err2 X.K X.mg cn e C R)
    (T : At X.K X.mg x st [a]) (Sg : FnScope (a :: n :: N') [a] (defScope st))
    (hB : ∀ (s : Shared) (H : Hp) (g : Addr) (cdv : Value) (y : Addr) (oe : Obj) (pn : List (Addr × Obj)), Zc (.ref C) none oe → (∃ vs, oe.data = .fields vs) →
      VS (Fm.pure fun _ => False) ((cxOf C8.CX0 X.prog X.w X.K X.mg X.base (a :: n :: N') x (defScope st) g cdv X.A X.stack s H C8.E0).nox.suite y ((y, oe) :: pn)) (b₀ :: suite) (none :: some (.raw (.ref y)) :: List.replicate N'.length none) { nx := fun _ => False, rt := fun d => d = .str w })
    (hx : ∀ (A : Around) (outer : List Env) (s : Shared) (H : Hp) (E : XK) (f c' : Addr), Room j (A.deeper (lamEnv X scope s.heap.objs.size f c')) → VEX F (lamCx X A outer s H E scope f c') be δ (fun H' => E (.ref C) none H'))
    (hbody : defBody st = [.Try [.Expr (.Call (.Name a p1) [] [] p2) p3] [.ExceptHandler (some (.Name e p4)) (some n) (b₀ :: suite) p10] [] [] p11, .Return (some (.Constant (.str z) j1 p12)) p13] := by rfl)
    (hdb : (x == ("__debug__" : Str)) = false := by decide) (hd : (a == ("__debug__" : Str)) = false := by decide) (hcd : (a == ("__classdict__" : Str)) = false := by decide)
    (hge : (defScope st).names.lookup e = some .globalImplicit := by rfl) (hde : (e == ("__debug__" : Str)) = false := by decide)
    (hn : (defScope st).names.lookup n = some .local := by rfl) (hva : Vis (defScope st) a := by first | exact Or.inl rfl | exact Or.inr (Or.inl rfl)) (hg : Gl X x := by rfl)
    (hdef : defaultsOf params X.env = ([], []) := by rfl) (hbind : ∀ (q : Str) (cl : List (Str × Addr)) (pm cv ctv : Value), bindArgs (PySem.W.kla_fn "<lambda>" q params be scope cl pm cv ctv) ⟨[], []⟩ = pure [] := by intros; rfl) :
    VD F X (.Call (.Name x p) [.Lambda params be scope lpos] [] pos) δ (.str w) := by
  obtain ⟨g, fd, Fu, hm, hb⟩ := T.ex
  obtain ⟨oc, od, kV, doc, pm, an, cdv, ct, osl, rfl, lk, hcg⟩ := Fu.ex
  rw [hbody] at lk hb
  refine ve_lam (TT := TWr C (.str w) (.str z)) (t := fun E σ H Q => ∀ (A : Around) (outer : List Env) (s : Shared) (H0 : Hp) (f c' : Addr), Room j (A.deeper (lamEnv X scope s.heap.objs.size f c')) → semE (lamCx X A outer s H0 E scope f c') be σ H Q) (j := j) (Ng := a :: n :: N') hT TB hcode hr hj (lamS_by (by rw [hsc]; exact L)) hm Fu.kp lk hcg hb Sg rfl hva
    (wr_gives Sg.nd hge er.r hde hn er.e (fun s H y oe pn h1 h2 => hB s H _ _ y oe pn h1 h2)) (fun A outer s H E f' c' hr' => ⟨fun pins s' σ H' Q I h => h A outer s H f' c' hr' pins s' I⟩) (fun σ H Q o s q => ?_) hdef hbind hg hdb hd hcd
  intro A outer s' H0 f c' hr'
  exact hx A outer s' H0 _ f c' hr' σ H _ o s fun H' e' o' => ⟨rfl, rfl, fun H'' e2 => q (.str w) H'' (.str w) (e'.trans e2.of0) (o'.mono e2) (.str w) rfl⟩
end
/-- another class of errors -/
theorem kit_no {K : PySem.W.Frag} {mg : Str → Option Value} {h : Heap} {x y : Str} {C D : Addr} (KX : K.In h) (G : h.Ns mainGlobals mg) (g1 : PySem.W.nsIn K mainGlobals x = some (some (.ref C))) (g2 : PySem.W.nsIn K mainGlobals y = some (some (.ref D))) (hne : (C == D) = false) (t1 : PySem.W.typeIn K (.ref D) = some (.type "type"))
    (i1 : PySem.W.isClsIn K D = true) (s1 : PySem.W.subIn K (.ref C) (.ref D) = some false) : ∃ C D, mg x = some (.ref C) ∧ mg y = some (.ref D) ∧ PySem.W.kitOne K (.ref C) (.ref D) = some false := ⟨C, D, PySem.W.mg_of KX G g1, PySem.W.mg_of KX G g2, by
  have i2 : (PySem.W.clsIn K D).isSome = true := i1
  unfold PySem.W.kitOne
  rw [if_neg (by
    intro z
    have : (Value.ref C) = .ref D := eq_of_beq z
    injection this with this
    subst this
    simp at hne)]
  unfold PySem.W.kitCls
  show (if ((PySem.W.clsIn K D).isSome && PySem.W.typeIn K (.ref D) == some (.type "type")) = true then _ else _) = _
  rw [i2, t1, if_pos (by decide)]
  exact s1⟩
theorem kit_at {K : PySem.W.Frag} {mg : Str → Option Value} {x y : Str} {C : Addr} (g : mg x = some (.ref C)) (h : ∃ C D, mg x = some (.ref C) ∧ mg y = some (.ref D) ∧ PySem.W.kitOne K (.ref C) (.ref D) = some false) : ∃ D, mg y = some (.ref D) ∧ PySem.W.kitOne K (.ref C) (.ref D) = some false := by
  obtain ⟨C', D, g1, g2, e⟩ := h
  rw [g] at g1
  cases g1
  exact ⟨D, g2, e⟩
end Dl
set_option Elab.async false
set_option linter.all false
set_option maxRecDepth 100000
set_option maxHeartbeats 4000000
/-! Fx: texts of integers and dyadics -/
namespace Fx
open PySem PySem.Spec PyProof.Rows L2 Dl TL
/-! ### what is read -/
/-- a dyadic whose text is short -/
structure DyOk (n k : Int) : Prop where
  dy : dyB (.tuple [.int n, .int k]) = true
  n : n.natAbs < 10 ^ 30
  k : k.natAbs < 10 ^ 30
theorem DyOk.zero {k : Int} (h : DyOk 0 k) : k = 0 := by
  have h1 : (within (.int 0) (-(10 ^ 40)) (10 ^ 40) && (within (.int k) (-400) 400 && (decide ((0 : Int) % 2 = 1) || (decide ((0 : Int) = 0) && decide (k = 0))))) = true := h.dy
  simp only [Bool.and_eq_true, Bool.or_eq_true, decide_eq_true_eq] at h1
  rcases h1.2.2 with z | z
  · exact absurd z (by decide)
  · exact z.2
theorem DyOk.of {n k : Int} (h1 : n % 2 = 1) (h2 : n.natAbs < 10 ^ 30) (h3 : -400 ≤ k) (h4 : k ≤ 400) : DyOk n k := ⟨by
  show (within (.int n) (-(10 ^ 40)) (10 ^ 40) && (within (.int k) (-400) 400 && (decide (n % 2 = 1) || (decide (n = 0) && decide (k = 0))))) = true
  have w1 : within (.int n) (-(10 ^ 40)) (10 ^ 40) = true := by
    show (decide _ && decide _) = true
    rw [Bool.and_eq_true, decide_eq_true_eq, decide_eq_true_eq]; omega
  have w2 : within (.int k) (-400) 400 = true := by
    show (decide _ && decide _) = true
    rw [Bool.and_eq_true, decide_eq_true_eq, decide_eq_true_eq]; omega
  rw [w1, w2, decide_eq_true h1]; rfl, h2, by omega⟩
end Fx
set_option Elab.async false
set_option linter.all false
set_option maxRecDepth 100000
set_option maxHeartbeats 4000000
namespace Dl
open PySem PySem.Spec PyProof.Rows L2 Fx
section
variable {F : Fm} {X : Cx} {δ : DE} {k : PyData → Prop} {e a b c : Expr} {es : List Expr} {pos apos p : Pos} {x y : Str} {d : PyData} {ds : List PyData} {i n m : Int}
/-! ### texts -/
/-! ### x in t, x any data -/
theorem op_notinT {K : PySem.W.Frag} (hu : X.A.units + 64 < cLine) {ds : List PyData} (h1 : PyData.plainAll ds = true) (h2 : PyData.depthAll ds = 0) {d : PyData} (hd : d.plain = true) : OpR X (compareOp .NotIn) (fun x y H Q => Dp X.K H x d ∧ Dp X.K H y (.tuple ds) ∧ Q (.bl (!ds.any fun z => PyData.eqv z d)) H) := by
  intro pins s σ H x y v u Q I rx ry h
  obtain ⟨g1, g2, q⟩ := h
  obtain ⟨as, r1⟩ := Dp.reads I d x v g1 rx
  obtain ⟨bs, r2⟩ := Dp.reads I (.tuple ds) y u g2 ry
  exact SeqAt.notIn_tuple_data r2 r1 h1 hd (by rw [h2, Nat.zero_min]; omega) ⟨.bl _, H, I, rfl, q⟩
theorem vb_notinT (hu : X.A.units + 64 < cLine) (ha : VD F X a δ d) (hb : VD F X b δ (.tuple ds)) (hd : d.plain = true) (h1 : PyData.plainAll ds = true := by rfl) (h2 : PyData.depthAll ds = 0 := by rfl) (hm : behindInMarks .NotIn b = false := by rfl) : VB F X (.Compare a [.NotIn] [b] pos) δ (!ds.any fun z => PyData.eqv z d) :=
  vb_cmp (op_notinT (K := X.K) hu h1 h2 hd) hm (fun S H vx vy Q _ hx hy q => ⟨Dn.dp _ _ hx, Dn.dp _ _ hy, q _ H (.refl H) (.bl _)⟩) ha hb
end
end Dl
namespace Dl
open PySem PySem.Spec PyProof.Rows L2 Fx
section
variable {F : Fm} {X : Cx} {δ : DE} {e a b : Expr} {pos : Pos} {xs ys : List PyData} {x : Str} {n : Int}
/-- list + list -/
theorem opd_catL {K : PySem.W.Frag} (hl : xs.length + ys.length ≤ 100000) : OpD K rCat (.list xs) (.list ys) (.list (xs ++ ys)) := fun S H vx vy Q hS hx hy q => by
  cases hx with
  | lst sx ax =>
    cases hy with
    | lst sy ay => exact ⟨_, _, _, _, rfl, rfl, sx.2, sy.2, by rw [ax.length, ay.length]; exact sz_le hl, fun p hp => q _ _ (.new hp) (.lst ⟨fun z => hS _ z hp, upd_same⟩ (Dn.monoAll (C := C0) (fun _ _ z => z.elim) (.new hp) _ _ (ax.append ay)))⟩
theorem vd_catL (ha : VD F X a δ (.list xs)) (hb : VD F X b δ (.list ys)) (hl : xs.length + ys.length ≤ 100000 := by first | decide | simp) : VD F X (.BinOp a .Add b pos) δ (.list (xs ++ ys)) := vd_op op_cat (opd_catL hl) ha hb
end
end Dl
set_option Elab.async false
set_option linter.all false
set_option maxRecDepth 100000
set_option maxHeartbeats 4000000
/-! Dm: lambdas that lie in a list, some with one default, and are run later by a def -/
namespace Dl
open PySem PySem.Spec PyProof.Rows L2 LamX
/-! ### a lambda's names -/
structure Lam where
  ps : Arguments
  be : Expr
  sc : Scope
/-- no cell of its own; the captured names stand in the maker's frame -/
structure LamK (sc scope : Scope) : Prop where
  kd : scope.kind = .function
  nc : scope.isCoroutine = false
  ng : scope.isGenerator = false
  cl : ∀ y ∈ scope.names, y.2 ≠ .cell
  fr : ∀ y ∈ scope.names, y.2 = .free → sc.names.lookup y.1 = some .cell ∨ sc.names.lookup y.1 = some .free
def lamKB (sc scope : Scope) : Bool :=
  decide (scope.kind = .function) && (!scope.isCoroutine && (!scope.isGenerator && (scope.names.all (fun y => !decide (y.2 = .cell)) &&
    scope.names.all fun y => !decide (y.2 = .free) || (decide (sc.names.lookup y.1 = some .cell) || decide (sc.names.lookup y.1 = some .free)))))
theorem lamK_by {sc scope : Scope} (h : lamKB sc scope = true) : LamK sc scope := by
  unfold lamKB at h
  simp only [Bool.and_eq_true, Bool.not_eq_true', decide_eq_true_eq, List.all_eq_true, decide_eq_false_iff_not, Bool.or_eq_true] at h
  obtain ⟨a, b, c, d, e⟩ := h
  exact ⟨a, b, c, d, fun y hy z => (e y hy).resolve_left fun n => n z⟩
theorem LamK.hasC {X : Cx} {scope : Scope} (L : LamK X.env.scope scope) (ok : X.Ok) : ∀ y ∈ scope.names, y.2 = .free → ∃ c, X.env.cells.lookup y.1 = some c := fun y hy e =>
  ok.has _ ((L.fr y hy e).imp id id)
/-- the names that are the lambda's own are among those left out -/
def OutOf (N : List Str) (scope : Scope) (is : List Nat) : Prop := ∀ (i : Nat) (y : Str), N[i]? = some y → scope.names.lookup y = some .local → i ∈ is
def outB (N : List Str) (scope : Scope) (is : List Nat) : Bool := (List.range N.length).all fun i => is.contains i || (match N[i]? with
  | some y => !decide (scope.names.lookup y = some .local)
  | none => true)
theorem out_by {N : List Str} {scope : Scope} {is : List Nat} (h : outB N scope is = true) : OutOf N scope is := fun i y hi hl => by
  have lt : i < N.length := (List.getElem?_eq_some_iff.mp hi).1
  have := List.all_eq_true.mp h i (List.mem_range.mpr lt)
  rw [hi] at this
  simp only [hl, decide_true, Bool.not_true, Bool.or_false, List.contains_iff_mem] at this
  exact this
def wipeD (δ : DE) : List Nat → DE
  | [] => δ
  | i :: is => (wipeD δ is).set i none
theorem StD.none {K : PySem.W.Frag} {S : AS} {H : Hp} {σ : L2.St} {δ : DE} (h : StD K S H σ δ) (i : Nat) : StD K S H (σ.set i none) (δ.set i none) := by
  refine ⟨by rw [List.length_set, List.length_set]; exact h.len, fun j s q => ?_⟩
  by_cases e : i = j
  · subst e
    rw [List.getElem?_set] at q
    split at q
    · split at q <;> cases q
    · rename_i z; exact absurd rfl z
  · rw [List.getElem?_set_ne e] at q ⊢
    exact h.at_ j s q
theorem StD.wipe {K : PySem.W.Frag} {S : AS} {H : Hp} {σ : L2.St} {δ : DE} (h : StD K S H σ δ) : ∀ is : List Nat, StD K S H (L2.wipe σ is) (wipeD δ is)
  | [] => h
  | i :: is => (h.wipe is).none i
/-! ### the frame of a lambda that runs -/
section
variable {X : Cx} {pins : List (Addr × Obj)} {σ : L2.St} {H HZ : Hp} {s s1 : Shared}
theorem lam_enter {A : Around} {outer : List Env} {E : XK} {scope : Scope} {f c' : Addr} {hN : Heap} {tk : Nat} {m : Str → Option Value} {is : List Nat} (I : Inv X pins σ H s) (L : LamK X.env.scope scope) (O : OutOf X.N scope is) (e0 : Env0 X.prog X.w X.K X.mg X.base A outer s1 HZ) (hd : A.handled = none)
    (un : Un (frs X.stack) [] H HZ s.heap s1.heap) (ns : hN.Ns s1.heap.objs.size m) (kp : ∀ b o, s1.heap.get? b = some o → hN.get? b = some o) :
    Inv (lamCx X A outer s1 HZ E scope f c') [] (L2.wipe σ is) HZ { s1 with heap := hN, toks := tk } := by
  have has := L.hasC I.ok
  -- a captured name's cell is the maker's
  have same : ∀ {y c}, (cloFrom X.env.cells scope.names []).lookup y = some c → scope.names.lookup y ≠ some .cell ∧ X.env.cells.lookup y = some c := fun {y c} q => by
    refine ⟨fun z => L.cl _ (PySem.mem_of_lookup z) rfl, ?_⟩
    rcases cloFrom_mem (PySem.mem_of_lookup q) with z | ⟨z1, z2⟩
    · cases z
    · obtain ⟨d, hd⟩ := has _ z1 rfl
      rw [z2, show X.env.cells.lookup y = some d from hd, Option.getD_some]
  have caught : ∀ {y}, scope.names.lookup y = some .free → ∃ c, (cloFrom X.env.cells scope.names []).lookup y = some c := fun q =>
    mem_lookup (cloFrom_has (cells := X.env.cells) (acc := []) (PySem.mem_of_lookup q))
  have stays : ∀ {c : Addr} {v : Option Value}, H c = Option.none → s.heap.IsCell c v → hN.IsCell c v := fun n ⟨o, ho, hdt⟩ => by
    obtain ⟨sl, z⟩ := un.any ho n (List.not_mem_nil)
    exact ⟨_, kp _ _ z, hdt⟩
  have okN : (lamCx X A outer s1 HZ E scope f c').Ok := {
    mod := e0.mod, kind := L.kd, glob := rfl, blt := rfl, above := Nat.le_refl _
    inj := fun y z c a b => I.ok.inj y z c (same a).2 (same b).2
    has := fun y hy => by
      have hy' : scope.names.lookup y = some .cell ∨ scope.names.lookup y = some .free := hy
      rcases hy' with z | z
      · exact absurd rfl (L.cl _ (PySem.mem_of_lookup z))
      · exact caught z
    cab := fun y c z _ => by cases (show false = true from z)
    hd := fun _ => hd
    frames := Around.frames_deeper e0.frames
    stk := .inr ⟨rfl, rfl⟩
    exf := fun b z => absurd (show b ∈ ([] : List Addr) from z) (List.not_mem_nil)
    bs := e0.bs
    bsz := e0.bsz
    noex := fun b _ _ z => absurd (show b ∈ ([] : List Addr) from z) (List.not_mem_nil)
    exfs := fun b z => absurd (show b ∈ ([] : List Addr) from z) (List.not_mem_nil)
    funs := e0.funs
    frf := e0.frf }
  exact {
    ok := okN, os := rfl, bare := e0.bare, base := Un.kept kp
    loc := ⟨m, ns, fun i y v a b vis => by
      obtain ⟨b1, b2⟩ := wipe_some b
      have vis' : Vis scope y := vis
      rcases vis' with z | z | z
      · exact absurd (O i y a z) b2
      · exact absurd rfl (L.cl _ (PySem.mem_of_lookup z))
      · obtain ⟨mm, _, look⟩ := I.loc
        have cf := L.fr _ (PySem.mem_of_lookup z) rfl
        obtain ⟨u, ru, q⟩ := look i y v a b1 (cf.elim (fun t => .inr (.inl t)) fun t => .inr (.inr t))
        obtain ⟨c, hc⟩ := caught z
        refine ⟨u, ru, .inr ⟨.inr z, c, hc, ?_⟩⟩
        rcases q with ⟨k, _⟩ | ⟨_, d, e, w⟩
        · have k : X.env.scope.names.lookup y = some .local := k
          exfalso
          rcases cf with t | t
          · have t : X.env.scope.names.lookup y = some .cell := t
            rw [k] at t; cases t
          · have t : X.env.scope.names.lookup y = some .free := t
            rw [k] at t; cases t
        · have e2 := (same hc).2
          rw [e2] at e
          cases e
          exact stays (I.freeC y _ e2) w⟩
    cell := fun y c q => by
      obtain ⟨v, z⟩ := I.cell y c (same q).2
      exact ⟨v, stays (I.freeC y c (same q).2) z⟩
    free := e0.hok.fresh (Nat.le_refl _)
    freeC := fun y c q => by
      obtain ⟨v, o, ho, _⟩ := I.cell y c (same q).2
      exact un.free c o ho (I.freeC y c (same q).2) (List.not_mem_nil)
    pin := fun p hp => absurd (show p ∈ ([] : List (Addr × Obj)) ++ [] from hp) (by simp)
    hok := e0.hok.kept kp
    len := (wipe_length σ is).trans I.len }
end
/-! ### the function that is made -/
/-- at f stands a function of this code; dV tells its defaults -/
def LamO (f : Addr) (q : Str) (cells : List (Str × Addr)) (l : Lam) (dV : Value) (c' : Addr) : HO :=
  .ext fun h => ∃ doc pm ctv : Value, h.get? f = some (PySem.W.kdv_obj "<lambda>" q l.ps (.expr l.be) l.sc (cloFrom cells l.sc.names []) dV doc pm c' ctv)
def DfA (H : Hp) (dV : Value) : Prop := dV = .none ∨ ∃ T : Addr, dV = .ref T ∧ H T = some (.tup [.int 0])
structure LamAt (q : Str) (cells : List (Str × Addr)) (H : Hp) (l : Lam) (f : Addr) (dV : Value) (c' : Addr) : Prop where
  o : H f = some (LamO f q cells l dV c')
  c : H c' = some (CodeO c' q)
  d : DfA H dV
theorem lamO_tb {f c' : Addr} {q : Str} {cells : List (Str × Addr)} {l : Lam} {dV : Value} (ps : Array Value) : LamO f q cells l dV c' ≠ .tbl ps := fun z => by
  unfold LamO at z; cases z
theorem lamO_lst {f c' : Addr} {q : Str} {cells : List (Str × Addr)} {l : Lam} {dV : Value} (xs : List V) : LamO f q cells l dV c' ≠ .lst xs := fun z => by
  unfold LamO at z; cases z
theorem DfA.mono {H H' : Hp} {dV : Value} (e : ∀ b o, (∀ xs, o ≠ HO.lst xs) → (∀ ps, o ≠ HO.tbl ps) → H b = some o → H' b = some o) (h : DfA H dV) : DfA H' dV :=
  h.imp id fun ⟨T, a, b⟩ => ⟨T, a, e T _ (fun _ z => by cases z) (fun _ z => by cases z) b⟩
theorem LamAt.mono {H H' : Hp} {q : Str} {cells : List (Str × Addr)} {l : Lam} {f c' : Addr} {dV : Value} (e : ∀ b o, (∀ xs, o ≠ HO.lst xs) → (∀ ps, o ≠ HO.tbl ps) → H b = some o → H' b = some o) (h : LamAt q cells H l f dV c') : LamAt q cells H' l f dV c' :=
  ⟨e _ _ lamO_lst lamO_tb h.o, e _ _ co_list codeO_ne h.c, h.d.mono e⟩
section
variable {X : Cx} {pins : List (Addr × Obj)} {σ : L2.St} {H : Hp} {s : Shared}
theorem lam_tail {l : Lam} {c P : Addr} {pos : Pos} {dV : Value} {E : Value → Shared → Prop} {Q : Value → Shared → Prop} (I : Inv X pins σ H s) (TB : TabB X.base X.mg c P) (hcode : X.env.code = .ref c) (tb : TabS H P (X.env.qual ++ "<lambda>")) (L : LamK X.env.scope l.sc) (hd : DfA H dV)
    (h : ∀ (f c' : Addr) (H1 : Hp) (s' : Shared), Inv X pins σ H1 s' → ExtN H H1 → TabS H1 P (X.env.qual ++ "<lambda>") → LamAt (X.env.qual ++ "<lambda>") X.env.cells H1 l f dV c' → Q (.ref f) s') :
    wpAny (model X.prog X.w) X.A (makeTail "<lambda>" (X.env.qual ++ "<lambda>") l.ps (.expr l.be) l.sc X.env dV .none none pos pos.line) Q E s := by
  obtain ⟨ps, atP, trip, among⟩ := tb
  have gP : s.heap.get? P = some { cls := .none, data := .fields ps } := I.hok P _ atP
  have clo := closure_ok (L.hasC I.ok)
  have built : s.heap.BuiltinsAt X.mg P := TB.bm.keeps I.bk
  have made : ∀ {H1 : Hp} {h' : Heap} {tk : Tok} {c' : Addr} {doc pm ctv : Value}, Inv X pins σ H1 { s with heap := h', toks := tk } → ExtN H H1 → TabS H1 P (X.env.qual ++ "<lambda>") → H1 c' = some (CodeO c' (X.env.qual ++ "<lambda>")) →
      Q (.ref h'.objs.size) { s with heap := h'.push (PySem.W.kdv_obj "<lambda>" (X.env.qual ++ "<lambda>") l.ps (.expr l.be) l.sc (cloFrom X.env.cells l.sc.names []) dV doc pm c' ctv), toks := tk } := fun {H1 h' tk c' doc pm ctv} I1 en t1 hc => by
    have new : H1 h'.objs.size = Option.none := I1.hok.fresh (Nat.le_refl _)
    have at_ := Heap.get?_push_size h' (o := PySem.W.kdv_obj "<lambda>" (X.env.qual ++ "<lambda>") l.ps (.expr l.be) l.sc (cloFrom X.env.cells l.sc.names []) dV doc pm c' ctv) rfl
    have I2 := I1.laid (a := h'.objs.size) (o := LamO h'.objs.size (X.env.qual ++ "<lambda>") X.env.cells l dV c') (t' := tk) (h' := h'.push (PySem.W.kdv_obj "<lambda>" (X.env.qual ++ "<lambda>") l.ps (.expr l.be) l.sc (cloFrom X.env.cells l.sc.names []) dV doc pm c' ctv))
      (fun b o e => Heap.get?_push_of_some _ e) (Nat.le_refl _) ⟨⟨doc, pm, ctv, at_⟩, ⟨_, at_⟩, fun h1 h2 ⟨d, p, t, z⟩ st => ⟨d, p, t, st _ z⟩⟩
    have keep : ∀ b o, H1 b = some o → upd H1 h'.objs.size (LamO h'.objs.size (X.env.qual ++ "<lambda>") X.env.cells l dV c') b = some o := fun b o e => by rw [upd_ne (ne_of_none e new)]; exact e
    exact h h'.objs.size c' _ _ I2 (en.trans (ExtN.of keep)) (t1.ext keep) ⟨upd_same, keep _ _ hc, hd.mono fun b o _ nt e => keep _ _ (en b o e nt)⟩
  cases hit : codeAmong pos ps.toList with
  | some cv =>
    obtain ⟨c', rfl, hc⟩ := among pos cv hit
    refine PySem.W.kdv_makeTailHit (mg := X.mg) (c := c) (P := P) (ps := ps) clo I.ok.glob (I.mod.glob.keeps I.bk) hcode (TB.code.keeps I.bk) gP trip hit built fun ctv doc h' tk hx _ => ?_
    exact made (I.kept hx) (ExtN.refl H) ⟨ps, atP, trip, among⟩ hc
  | none =>
    refine PySem.W.kdv_makeTail (mg := X.mg) (c := c) (P := P) (ps := ps) clo I.ok.glob (I.mod.glob.keeps I.bk) hcode (TB.code.keeps I.bk) gP trip hit TB.gP built fun c' ctv doc h' tk hx ge lt rec_ tabAt => ?_
    obtain ⟨_, oc, vs, t, z, hoc, hdt, hv⟩ := rec_
    cases z
    have nC : H c' = Option.none := I.hok.fresh ge
    have I1 := inv_table (t' := tk) (more := #[rawInt pos.line, rawInt pos.col, .ref c']) I atP (fun b o ne e => hx b o ne e) tabAt ge ⟨oc, vs, t, hoc, hdt, hv⟩
    have en : ExtN H (upd (upd H P (.tbl (ps ++ #[rawInt pos.line, rawInt pos.col, .ref c']))) c' (CodeO c' (X.env.qual ++ "<lambda>"))) := fun b o e nt => by
      have b1 : b ≠ c' := ne_of_none e nC
      have b2 : b ≠ P := fun z => by subst z; rw [atP] at e; exact nt ps (Option.some.inj e).symm
      rw [upd_ne b1, upd_ne b2]; exact e
    refine made I1 en ⟨ps ++ #[rawInt pos.line, rawInt pos.col, .ref c'], ?_, ?_, fun p' cv z => ?_⟩ upd_same
    · rw [upd_ne (ne_of_none atP nC)]; exact upd_same
    · rw [show (ps ++ #[rawInt pos.line, rawInt pos.col, .ref c']).toList = ps.toList ++ [rawInt pos.line, rawInt pos.col, .ref c'] by simp]
      exact PySem.TriplesOk_snoc _ _ _ _ trip
    · rw [show (ps ++ #[rawInt pos.line, rawInt pos.col, .ref c']).toList = ps.toList ++ [rawInt pos.line, rawInt pos.col, .ref c'] by simp] at z
      rcases among_app _ trip z with y | y
      · obtain ⟨d, y1, y2⟩ := among p' cv y
        exact ⟨d, y1, en _ _ y2 codeO_ne⟩
      · exact ⟨c', y, upd_same⟩
/-- the parameters: none, or one with the default 0 -/
inductive LamP (l : Lam) : Prop
  | no (h1 : l.ps.defaults = []) (h2 : l.ps.kw_defaults = []) (h3 : ∀ (q : Str) (cl : List (Str × Addr)) (doc pm cv ct : Value), bindArgs (PySem.W.kdv_fn "<lambda>" q l.ps (.expr l.be) l.sc cl .none doc pm cv ct) ⟨[], []⟩ = pure []) : LamP l
  | one (a : Str) (j : Nat) (p : Pos) (h1 : l.ps.defaults = [.Constant (.int 0) j p]) (h2 : l.ps.kw_defaults = []) (h3 : ∀ (q : Str) (cl : List (Str × Addr)) (T : Addr) (doc pm cv ct : Value), ∃ k : Option (Array Value) → Sem (List (Str × Value)),
      bindArgs (PySem.W.kdv_fn "<lambda>" q l.ps (.expr l.be) l.sc cl (.ref T) doc pm cv ct) ⟨[], []⟩ = seqItems? (.ref T) >>= k ∧ ∀ v, k (some #[v]) = pure [(a, v)]) (h4 : l.sc.names.lookup a = some .local) : LamP l
/-- what dV is, by the parameters -/
def DfL (l : Lam) (dV : Value) : Prop := (l.ps.defaults = [] → dV = .none) ∧ (l.ps.defaults ≠ [] → dV ≠ .none)
def LamH (q : Str) (cells : List (Str × Addr)) (H : Hp) (l : Lam) (f : Addr) : Prop := ∃ dV c', LamAt q cells H l f dV c' ∧ DfL l dV
theorem LamH.mono {H H' : Hp} {q : Str} {cells : List (Str × Addr)} {l : Lam} {f : Addr} (e : ∀ b o, (∀ xs, o ≠ HO.lst xs) → (∀ ps, o ≠ HO.tbl ps) → H b = some o → H' b = some o) (h : LamH q cells H l f) : LamH q cells H' l f := by
  obtain ⟨d, c, a, b⟩ := h
  exact ⟨d, c, a.mono e, b⟩
theorem pe_lamF {l : Lam} {c P : Addr} {pos : Pos} (TB : TabB X.base X.mg c P) (hcode : X.env.code = .ref c) (L : LamK X.env.scope l.sc) (hp : LamP l) :
    PE X (.Lambda l.ps l.be l.sc pos) (fun _ H Q => TabS H P (X.env.qual ++ "<lambda>") ∧ ∀ (f : Addr) (H1 : Hp), ExtN H H1 → TabS H1 P (X.env.qual ++ "<lambda>") → LamH (X.env.qual ++ "<lambda>") X.env.cells H1 l f → Q (.ref f) H1) := by
  refine ⟨fun pins s σ H Q I ⟨tb, h⟩ => ?_⟩
  cases hp with
  | no h1 h2 h3 =>
    refine PySem.W.kla_eval (by rw [defaultsOf_eq, h1, h2]; rfl) ?_
    rw [makeFunction_eq]
    simp only [List.zip_nil_right, List.filterMap_nil, List.isEmpty_nil, if_true, pure_bind]
    exact lam_tail I TB hcode tb L (.inl rfl) fun f c' H1 s' I1 en t1 at_ => ⟨.ref f, H1, I1, rfl, h f H1 en t1 ⟨_, c', at_, ⟨fun _ => rfl, fun z => absurd h1 z⟩⟩⟩
  | one a j p h1 h2 h3 h4 =>
    refine PySem.W.kdv_lam (by rw [h1]; rfl) h2 ?_
    rw [h1]
    have ev := (pe_int (X := X) (i := 0) (j := j) (pos := p)).run pins s σ H (fun v H' => v = .int 0 ∧ H' = H) I ⟨rfl, rfl⟩
    refine PySem.W.kdv_all1 (wpAny_mono ev (fun v s1 hv => ?_) fun _ _ z => z)
    obtain ⟨v', H', I1, rv, e1, e2⟩ := hv
    subst e1 e2
    obtain ⟨t, rfl⟩ := rv
    refine PySem.W.kdv_all0 ?_
    rw [makeFunction_eq]
    simp only [List.zip_nil_right, List.filterMap_nil, List.isEmpty_nil, List.isEmpty_cons, if_true, pure_bind, Bool.false_eq_true, if_false]
    refine wpAny_bind (wpAny_newTextTuple ?_)
    have nw : H' s1.heap.objs.size = Option.none := I1.hok.fresh (Nat.le_refl _)
    have I2 : Inv X pins σ (upd H' s1.heap.objs.size (.tup [.int 0])) { s1 with heap := s1.heap.push { cls := .type "tuple", data := .seq [Value.int 0 t].toArray }, toks := s1.toks } :=
      I1.laid (fun b u e => Heap.get?_push_of_some _ e) (Nat.le_refl _) ⟨by show 1 ≤ sizeLine; decide, [Value.int 0 t], .cons ⟨t, rfl⟩ .nil, _, Heap.get?_push_size _ rfl, rfl, 0, rfl⟩
    have kp : ∀ b o, H' b = some o → upd H' s1.heap.objs.size (.tup [.int 0]) b = some o := fun b o e => by rw [upd_ne (ne_of_none e nw)]; exact e
    exact lam_tail I2 TB hcode (tb.ext kp) L (.inr ⟨_, rfl, upd_same⟩) fun f c' H1 s' I3 en t1 at_ => ⟨.ref f, H1, I3, rfl, h f H1 ((ExtN.of kp).trans en) t1 ⟨_, c', at_, ⟨fun z => (by rw [h1] at z; cases z), fun _ z => by cases z⟩⟩⟩
end
/-! ### several of them, in a list -/
inductive LamAll (q : Str) (cells : List (Str × Addr)) (H : Hp) : List Lam → List Addr → Prop
  | nil : LamAll q cells H [] []
  | cons {l : Lam} {f : Addr} {ls : List Lam} {fs : List Addr} : LamH q cells H l f → LamAll q cells H ls fs → LamAll q cells H (l :: ls) (f :: fs)
theorem LamAll.mono {H H' : Hp} {q : Str} {cells : List (Str × Addr)} (e : ∀ b o, (∀ xs, o ≠ HO.lst xs) → (∀ ps, o ≠ HO.tbl ps) → H b = some o → H' b = some o) : ∀ {ls : List Lam} {fs : List Addr}, LamAll q cells H ls fs → LamAll q cells H' ls fs
  | _, _, .nil => .nil
  | _, _, .cons a t => .cons (a.mono e) (t.mono e)
theorem LamAll.len {H : Hp} {q : Str} {cells : List (Str × Addr)} : ∀ {ls : List Lam} {fs : List Addr}, LamAll q cells H ls fs → fs.length = ls.length
  | _, _, .nil => rfl
  | _, _, .cons _ t => congrArg (· + 1) t.len
theorem LamAll.app {H : Hp} {q : Str} {cells : List (Str × Addr)} {ls2 : List Lam} {fs2 : List Addr} (b : LamAll q cells H ls2 fs2) : ∀ {ls : List Lam} {fs : List Addr}, LamAll q cells H ls fs → LamAll q cells H (ls ++ ls2) (fs ++ fs2)
  | _, _, .nil => b
  | _, _, .cons a t => .cons a (b.app t)
theorem LamAll.get {H : Hp} {q : Str} {cells : List (Str × Addr)} : ∀ {ls : List Lam} {fs : List Addr}, LamAll q cells H ls fs → ∀ {i : Nat} {l : Lam}, ls[i]? = some l → ∃ f, fs[i]? = some f ∧ LamH q cells H l f
  | _, _, .nil, i, l, e => by simp at e
  | _, _, .cons a t, 0, l, e => ⟨_, rfl, by simp at e; subst e; exact a⟩
  | _, _, .cons a t, i + 1, l, e => by
    obtain ⟨f, h1, h2⟩ := t.get (i := i) (l := l) (by simpa using e)
    exact ⟨f, by simpa using h1, h2⟩
/-- the written lambdas -/
inductive LamEs (sc : Scope) : List Expr → List Lam → Prop
  | nil : LamEs sc [] []
  | cons {l : Lam} {pos : Pos} {es : List Expr} {ls : List Lam} : LamK sc l.sc → LamP l → LamEs sc es ls → LamEs sc (.Lambda l.ps l.be l.sc pos :: es) (l :: ls)
theorem LamEs.one {sc : Scope} {ps : Arguments} {be : Expr} {s : Scope} {pos : Pos} {es : List Expr} {ls : List Lam} (h1 : lamKB sc s = true) (h2 : LamP ⟨ps, be, s⟩) (h : LamEs sc es ls) : LamEs sc (.Lambda ps be s pos :: es) (⟨ps, be, s⟩ :: ls) := .cons (l := ⟨ps, be, s⟩) (lamK_by h1) h2 h
section
variable {X : Cx}
theorem pa_lams {c P : Addr} (TB : TabB X.base X.mg c P) (hcode : X.env.code = .ref c) : ∀ {es : List Expr} {ls : List Lam}, LamEs X.env.scope es ls →
    PA X es (fun _ H Q => TabS H P (X.env.qual ++ "<lambda>") ∧ ∀ (fs : List Addr) (H1 : Hp), ExtN H H1 → TabS H1 P (X.env.qual ++ "<lambda>") → LamAll (X.env.qual ++ "<lambda>") X.env.cells H1 ls fs → Q (fs.map V.ref) H1)
  | _, _, .nil => ⟨fun pos pins s σ H Q I ⟨tb, h⟩ => pa_nil.run pos pins s σ H Q I (h [] H (ExtN.refl H) tb .nil)⟩
  | _, _, .cons (l := l) (pos := lp) (es := es) k p t => ⟨fun pos pins s σ H Q I ⟨tb, h⟩ => (pa_cons (pe_lamF (l := l) (pos := lp) TB hcode k p) (pa_lams TB hcode t) rfl).run pos pins s σ H Q I
      ⟨tb, fun f H1 e1 t1 a1 => ⟨t1, fun fs H2 e2 t2 a2 => h (f :: fs) H2 (e1.trans e2) t2 (.cons (a1.mono fun b o _ nt e => e2 b o e nt) a2)⟩⟩⟩
end
structure HasLams (F : Fm) (q : Str) (cells : List (Str × Addr)) (sc : Scope) (L : Addr) (ls : List Lam) : Prop where
  k : ∀ l ∈ ls, LamK sc l.sc ∧ LamP l
  h : ∀ H, F.J H → ∃ fs : List Addr, H L = some (.lst (fs.map V.ref)) ∧ LamAll q cells H ls fs
def Fm.lams (F : Fm) (q : Str) (cells : List (Str × Addr)) (L : Addr) (ls : List Lam) : Fm :=
  ⟨fun a => F.S a ∨ a = L, F.C, fun H => F.J H ∧ ∃ fs : List Addr, H L = some (.lst (fs.map V.ref)) ∧ LamAll q cells H ls fs, fun a o z => (F.sub a o z).imp .inl id,
    fun H H' e ⟨j, fs, h1, h2⟩ => ⟨F.mono H H' e j, fs, e.k _ _ (fun z => z) h1, h2.mono fun b o _ _ x => e.k b o (fun z => z) x⟩⟩
theorem hasLams {F : Fm} {q : Str} {cells : List (Str × Addr)} {sc : Scope} {L : Addr} {ls : List Lam} (k : ∀ l ∈ ls, LamK sc l.sc ∧ LamP l) : HasLams (F.lams q cells L ls) q cells sc L ls := ⟨k, fun _ h => h.2⟩
theorem LamEs.all {sc : Scope} : ∀ {es : List Expr} {ls : List Lam}, LamEs sc es ls → ∀ l ∈ ls, LamK sc l.sc ∧ LamP l
  | _, _, .nil => fun l h => by cases h
  | _, _, .cons a b t => fun l h => by
    rcases List.mem_cons.mp h with rfl | h
    · exact ⟨a, b⟩
    · exact t.all l h
theorem hasRow_lams {F : Fm} {K : PySem.W.Frag} {r : Addr} {q : Str} {cells : List (Str × Addr)} {L : Addr} {ls : List Lam} (h : HasRow F K r) (ne : L ≠ r) : HasRow (F.lams q cells L ls) K r := by
  refine ⟨.inl h.s, h.c, fun H H' e ⟨j, fs, h1, h2⟩ => ⟨h.soft H H' (fun a o z => e a o (z.imp .inl id)) j, fs, e _ _ (.inl (.inr rfl)) h1, h2.mono fun b o nl _ x => e b o (.inr nl) x⟩, fun H ⟨j, fs, h1, h2⟩ => ?_⟩
  obtain ⟨scr, ⟨hrow, ns, hl, hs⟩, back⟩ := h.ok H j
  refine ⟨scr, ⟨hrow, ns, hl, ?_⟩, fun H' e h' => ⟨back H' e ⟨h'.row, ScOk.mono e ⟨ns, hl, hs⟩⟩, fs, e.k _ _ ne h1, h2.mono fun b o nl _ x => e.k b o (fun z => ?_) x⟩⟩
  · rcases hs with ⟨s, n, z⟩ | z
    · exact .inl ⟨.inl s, n, z⟩
    · exact .inr z
  · subst z
    obtain ⟨i, s, c, _, _, _, _, hr⟩ := hrow
    rw [hr] at x
    exact nl _ (Option.some.inj x).symm
theorem hasTab_lams {F : Fm} {P : Addr} {q' q : Str} {cells : List (Str × Addr)} {L : Addr} {ls : List Lam} (h : HasTab F P q') : HasTab (F.lams q cells L ls) P q' := by
  refine ⟨h.t, fun H ⟨j, fs, h1, _⟩ a sa => ?_, fun H j => h.ok H j.1, fun H H1 e t ⟨j, fs, h1, h2⟩ => ⟨h.back H H1 e t j, fs, e _ _ h1 (fun ps z => by cases z), h2.mono fun b o _ nt x => e b o x nt⟩⟩
  rcases sa with sa | sa
  · exact h.d H j a sa
  · subst sa; exact ⟨_, h1, nTl⟩
theorem EndsOk.lams {F : Fm} {K : PySem.W.Frag} {H : Hp} {R : Out} {D : Ends} {q : Str} {cells : List (Str × Addr)} {L : Addr} {ls : List Lam} (h : EndsOk F K H R D) : EndsOk (F.lams q cells L ls) K H R D := by
  have okk : ∀ {H' : Hp}, (F.lams q cells L ls).ok H' → F.ok H' := fun o => ⟨o.1.1, fun a sa => o.2 a (.inl sa)⟩
  exact ⟨fun σ' H' δ' e o s => h.nx σ' H' δ' e (okk o) (s.less fun _ _ z => .inl z), fun σ' H' δ' e o s => h.bk σ' H' δ' e (okk o) (s.less fun _ _ z => .inl z), fun σ' H' δ' e o s => h.ct σ' H' δ' e (okk o) (s.less fun _ _ z => .inl z), fun v H' d e o n => h.rt v H' d e (okk o) (Dn.less (fun _ _ z => .inl z) _ _ n)⟩
section
variable {F : Fm} {X : Cx} {δ : DE} {R : Out} {rest : List Stmt}
/-- the lambdas are made and lie in a new list: the frame knows them -/
theorem lams_step {P r : Addr} {q : Str} {cells : List (Str × Addr)} {σ : L2.St} {H H1 : Hp} {L i : Nat} {D : Ends} {fs : List Addr} {ls : List Lam} (hF : HasRow F X.K r) (hT : HasTab F P q) (o : F.ok H1) (s : StD X.K F.S H1 σ δ) (qe : EndsOk F X.K H R D) (e1 : Xt F.C H H1) (hL : H1 L = none) (la : LamAll q cells H1 ls fs) (ak : ∀ l ∈ ls, LamK X.env.scope l.sc ∧ LamP l)
    (h : ∀ (F' : Fm) (L : Addr), HasRow F' X.K r → HasTab F' P q → HasLams F' q cells X.env.scope L ls → VS F' X rest (δ.set i (some (.raw (.ref L)))) R) : semSs X rest D (σ.set i (some (.ref L))) (upd H1 L (.lst (fs.map V.ref))) := by
  have e2 : Xt C0 H1 (upd H1 L (.lst (fs.map V.ref))) := .new hL
  have ne : L ≠ r := fun z => by
    subst z
    obtain ⟨scr, ⟨⟨i, s, c, _, _, _, _, hr⟩, _⟩, _⟩ := hF.ok H1 o.1
    rw [hr] at hL; cases hL
  have la2 := la.mono (H' := upd H1 L (.lst (fs.map V.ref))) fun b o _ _ x => e2.k b o (fun z => z) x
  have o2 := o.mono e2
  refine h (F.lams q cells L ls) L (hasRow_lams hF ne) (hasTab_lams hT) (hasLams ak) _ _ D ⟨⟨o2.1, fs, upd_same, la2⟩, fun a sa z => ?_⟩ (((s.less fun a ha z => ?_).mono (C := C0) (fun _ _ z => z.elim) e2).set (s := .raw (.ref L)) i rfl) ((qe.mono (e1.trans e2.of0)).lams)
  · rcases sa with sa | sa
    · exact o2.2 a sa z
    · subst sa; rw [upd_same] at z; cases z
  · rcases z with z | z
    · exact z
    · subst z; exact absurd hL ha
theorem HasTab.step {P : Addr} {q : Str} (hT : HasTab F P q) {H H1 : Hp} (o : F.ok H) (en : ExtN H H1) (t1 : TabS H1 P q) : Xt F.C H H1 ∧ F.ok H1 := by
  have j1 : F.J H1 := hT.back H H1 en t1 o.1
  exact ⟨⟨fun b u nc x => en b u x fun ps z => nc (hT.t b u ⟨ps, z⟩)⟩, j1, fun b sb z => by
    obtain ⟨u, h1, _⟩ := hT.d H1 j1 b sb
    rw [h1] at z; cases z⟩
/-- x = [lambda .., ..] -/
theorem vs_lams {c P r : Addr} {x : Str} {px lp spos : Pos} {es : List Expr} {ls : List Lam} (i : Nat) (hF : HasRow F X.K r) (hT : HasTab F P (X.env.qual ++ "<lambda>")) (TB : TabB X.base X.mg c P) (hcode : X.env.code = .ref c) {sc : Scope} (hsc : X.env.scope = sc) (hE : LamEs sc es ls) (hl : ls.length ≤ 1000)
    (h : ∀ (F' : Fm) (L : Addr), HasRow F' X.K r → HasTab F' P (X.env.qual ++ "<lambda>") → HasLams F' (X.env.qual ++ "<lambda>") X.env.cells X.env.scope L ls → VS F' X rest (δ.set i (some (.raw (.ref L)))) R) (hN : X.N.Nodup) (hi : X.N[i]? = some x := by rfl) (hx : Loc X.env.scope x := by first | exact Or.inl rfl | exact Or.inr rfl)
    (hs : swapsWith (.List es lp) (some (.Name x px)) spos.line X.env = pure false := by rfl) (hf : X.fn x = true ∨ X.env.scope.names.lookup x = some .local := by first | exact .inl rfl | exact .inr rfl) : VS F X (.Assign [.Name x px] (.List es lp) spos :: rest) δ R := by
  subst hsc
  exact vs_by (ps_set hN hi hx (pe_lst (pa_lams TB hcode hE)) hs hf) fun σ H D o s q => ⟨hT.ok H o.1, fun fs H1 en t1 la => by
    obtain ⟨e1, o1⟩ := hT.step o en t1
    refine ⟨?_, fun L hL => lams_step hF hT o1 (o.all s e1) q e1 hL la hE.all h⟩
    rw [List.length_map, la.len]; exact sz_le (by omega)⟩
/-- x = y + [lambda .., ..] -/
theorem vs_lamsAdd {c P r L0 : Addr} {x y : Str} {px py lp bp spos : Pos} {es : List Expr} {ls ls0 : List Lam} (i j : Nat) (hF : HasRow F X.K r) (hT : HasTab F P (X.env.qual ++ "<lambda>")) (hL0 : HasLams F (X.env.qual ++ "<lambda>") X.env.cells X.env.scope L0 ls0) (TB : TabB X.base X.mg c P) (hcode : X.env.code = .ref c) {sc : Scope} (hsc : X.env.scope = sc) (hE : LamEs sc es ls) (hl : ls0.length + ls.length ≤ 1000)
    (h : ∀ (F' : Fm) (L : Addr), HasRow F' X.K r → HasTab F' P (X.env.qual ++ "<lambda>") → HasLams F' (X.env.qual ++ "<lambda>") X.env.cells X.env.scope L (ls0 ++ ls) → VS F' X rest (δ.set i (some (.raw (.ref L)))) R) (hN : X.N.Nodup) (hd : δ[j]? = some (some (.raw (.ref L0))) := by rfl) (hi : X.N[i]? = some x := by rfl) (hj : X.N[j]? = some y := by rfl) (hx : Loc X.env.scope x := by first | exact Or.inl rfl | exact Or.inr rfl)
    (hv : Vis X.env.scope y := by first | exact Or.inl rfl | exact Or.inr (Or.inl rfl) | exact Or.inr (Or.inr rfl)) (hdy : (y == ("__debug__" : Str)) = false := by decide) (hcy : (y == ("__classdict__" : Str)) = false := by decide)
    (hs : swapsWith (.BinOp (.Name y py) .Add (.List es lp) bp) (some (.Name x px)) spos.line X.env = pure false := by rfl) (hf : X.fn x = true ∨ X.env.scope.names.lookup x = some .local := by first | exact .inl rfl | exact .inr rfl) : VS F X (.Assign [.Name x px] (.BinOp (.Name y py) .Add (.List es lp) bp) spos :: rest) δ R := by
  subst hsc
  exact vs_by (ps_set hN hi hx (pe_op op_cat (pe_var (i := j) hj hv hdy hcy) (pe_lst (pa_lams TB hcode hE))) hs hf) fun σ H D o s q => by
    obtain ⟨v, h1, h2⟩ := s.at_ j _ hd
    have h2' : v = .ref L0 := h2
    subst h2'
    refine ⟨_, h1, hT.ok H o.1, fun fs H1 en t1 la => ?_⟩
    obtain ⟨e1, o1⟩ := hT.step o en t1
    refine ⟨?_, fun M hM => ?_⟩
    · rw [List.length_map, la.len]; exact sz_le (by omega)
    · have e2 : Xt C0 H1 (upd H1 M (.lst (fs.map V.ref))) := .new hM
      have o2 := o1.mono e2
      obtain ⟨fs0, a1, a2⟩ := hL0.h _ o2.1
      refine ⟨L0, M, _, _, rfl, rfl, a1, upd_same, ?_, fun p hp => ?_⟩
      · rw [List.length_map, List.length_map, la.len, a2.len]; exact sz_le (by omega)
      · rw [← List.map_append]
        exact lams_step hF hT o2 (o.all s (e1.trans e2.of0)) q (e1.trans e2.of0) hp ((la.mono fun b o _ _ x => e2.k b o (fun z => z) x).app a2) (fun l hl => (List.mem_append.mp hl).elim (hL0.k l) (hE.all l)) h
end
end Dl
set_option Elab.async false
set_option linter.all false
set_option maxRecDepth 100000
set_option maxHeartbeats 4000000
/-! Do: a lambda out of a list handed to a def that runs it -/
namespace Dl
open PySem PySem.Spec PyProof.Rows L2 LamX
section
variable {X : Cx} {pins : List (Addr × Obj)} {σ : L2.St} {H : Hp} {s : Shared}
/-- a(), in the def that got the lambda -/
theorem act_lam {CXg : CXT} {Eg : XK} {Ng : List Str} {qg : Str} {sg : Scope} {g f c' : Addr} {cdg dV : Value} {l : Lam} {k i : Nat} {a : Str} {pn : List (Addr × Obj)} {xe : Value → Shared → Prop} {W : WX} {E : XK} {tb : TE} {p1 p2 : Pos} {is : List Nat}
    (I : Inv X pins σ H s) (L : LamK X.env.scope l.sc) (O : OutOf X.N l.sc is) (hp : LamP l) (hdl : DfL l dV)
    (tk : Takes ((cxOf CXg X.prog X.w X.K X.mg X.base Ng qg sg g cdg X.A X.stack s H Eg).tr pn xe) W) (hW : ∀ cls d σ' H', E cls d H' → W cls d σ' H') (hr : Room (k + 1) (X.A.deeper (envOfC qg sg s.heap.objs.size g cdg)))
    (hbody : ∀ (A : Around) (outer : List Env) (s : Shared) (H : Hp), Room k (A.deeper (lamEnv X l.sc s.heap.objs.size f c')) → PE (lamCx X A outer s H E l.sc f c') l.be tb)
    (hN : Ng[i]? = some a) (hv : Vis sg a) (hd : (a == ("__debug__" : Str)) = false := by decide) (hcd : (a == ("__classdict__" : Str)) = false := by decide) :
    PE ((cxOf CXg X.prog X.w X.K X.mg X.base Ng qg sg g cdg X.A X.stack s H Eg).tr pn xe) (.Call (.Name a p1) [] [] p2)
      (fun σZ HZ Q => σZ[i]? = some (some (.ref f)) ∧ LamAt (X.env.qual ++ "<lambda>") X.env.cells HZ l f dV c' ∧ tb (L2.wipe σ is) HZ Q) := by
  refine ⟨fun pinsZ sZ σZ HZ Q IZ ⟨hs, la, ht⟩ => ?_⟩
  refine wpAny_Call_Name_kw (thn ((pe_var (pos := p1) (i := i) hN hv hd hcd).run pinsZ sZ σZ HZ (fun v H1 => v = .ref f ∧ H1 = HZ) IZ ⟨_, hs, rfl, rfl⟩) fun u s1 ⟨v, H1, I1, r1, e1, e2⟩ => ?_)
  subst e1 e2
  obtain rfl : u = Value.ref f := r1
  obtain ⟨⟨doc, pm, ctv, fAt⟩, _, _⟩ := I1.hok f _ la.o
  obtain ⟨⟨oc, vs, t, hoc, hdt, hvt⟩, _, _⟩ := I1.hok c' _ la.c
  refine PySem.W.callWith_F0 ⟨_, _, _, _, fAt⟩ ?_
  -- the body, in a frame that holds m
  have fin : ∀ (m : Str → Option Value) (hN' : Heap) (tks : Nat), hN'.Ns s1.heap.objs.size m → (∀ b o, s1.heap.get? b = some o → hN'.get? b = some o) →
      codeAny (model X.prog X.w) (X.A.deeper (envOfC qg sg s.heap.objs.size g cdg)) (.expr l.be (lamEnv X l.sc s1.heap.objs.size f c')) (CR (L2.CX X.prog X.w) (envOfC qg sg s.heap.objs.size g cdg :: X.stack) X.prog X.w H1 s1 Q E) { s1 with heap := hN', toks := tks } := fun m hN' tks ns kp => by
    have J := lam_enter (E := E) (f := f) (c' := c') (tk := tks) I L O I1.env0 hr.hd I1.base ns kp
    refine PySem.W.kla_codeExpr (wpAny_mono ((hbody _ _ s1 H1 (hr.deeper _)).run [] _ _ H1 Q J ht) (fun v s' hq => ?_) fun e s' hq => hq)
    obtain ⟨w', H', J', rv, q⟩ := hq
    exact ⟨w', H', J'.os, J'.bare, J'.base, J'.hok, rv, q⟩
  have rc : codeAny (model X.prog X.w) (X.A.deeper (envOfC qg sg s.heap.objs.size g cdg)) (.call (.ref f) ⟨[], []⟩) (CR (L2.CX X.prog X.w) (envOfC qg sg s.heap.objs.size g cdg :: X.stack) X.prog X.w H1 s1 Q E) s1 := by
    refine PySem.W.kla_callFunE hr.depth fAt rfl L.nc L.ng rfl ⟨c', oc, vs, t, rfl, hoc, hdt, hvt⟩ ?_
    cases hp with
    | no h1 h2 h3 =>
      rw [show dV = .none from hdl.1 h1, h3]
      exact wpAny_pure (wpAny_newFunctionEnv L.cl (fun y hy => absurd hy (List.not_mem_nil)) (fun hN' ns sb => ⟨I1.nolimit.fresh _ sb, fin _ hN' _ ns fun b o e => sb.extBut b o (Nat.ne_of_lt (Heap.lt_size e)) (Heap.get?_push_of_some _ e)⟩) L.kd)
    | one a' j p h1 h2 h3 h4 =>
      rcases la.d with z | ⟨T, z, hT⟩
      · exact absurd z (hdl.2 (by rw [h1]; exact fun z => by cases z))
      · subst z
        obtain ⟨_, its, rv, oT, gT, _, n, dT⟩ := I1.hok T _ hT
        obtain ⟨u, rfl, _⟩ := rv.one
        obtain ⟨kk, b1, b2⟩ := h3 (X.env.qual ++ "<lambda>") (cloFrom X.env.cells l.sc.names []) T doc pm (.ref c') ctv
        rw [b1]
        refine wpAny_bind (wpAny_seqItems gT dT ?_)
        rw [show ([u].toArray : Array Value) = #[u] from rfl, b2 u]
        exact wpAny_pure (wpAny_newFunctionEnv L.cl (fun y hy => by rw [List.mem_singleton.mp hy]; exact h4) (fun hN' ns sb => ⟨I1.nolimit.fresh _ sb, fin _ hN' _ ns fun b o e => sb.extBut b o (Nat.ne_of_lt (Heap.lt_size e)) (Heap.get?_push_of_some _ e)⟩) L.kd)
  refine wpAny_call (codeAny_mono rc fun r s' hq => ?_)
  cases r with
  | error e => exact (passes_call (X := (cxOf CXg X.prog X.w X.K X.mg X.base Ng qg sg g cdg X.A X.stack s H Eg).tr pn xe) tk hW) pinsZ σZ H1 s1 e s' I1 hq
  | ok fl =>
    cases fl with
    | ret u => exact I1.after hq
    | next => exact hq.elim
    | brk => exact hq.elim
    | cont => exact hq.elim
end
section
variable {X : Cx}
theorem arg_run {e : Expr} {σ : L2.St} {H : Hp} {Qv : VK} {pins : List (Addr × Obj)} {s : Shared} (he : starEach [e] X.env = [(false, eval e X.env)]) (h : semE X e σ H Qv) (I : Inv X pins σ H s) (pos : Pos) :
    wpAny (model X.prog X.w) X.A (spliced (backTo pos (starEach [e] X.env))) (AP X pins σ fun vs H1 => ∃ v, vs = [v] ∧ Qv v H1) X.xe s :=
  (pa_cons (pe_sem X e) pa_nil he).run pos pins s σ H _ I (show semE X e σ H fun v H1 => ∃ w, [v] = [w] ∧ Qv w H1 from fun pins s I => wpAny_mono (h pins s I) (fun _ _ ⟨v, H1, I1, r1, q1⟩ => ⟨v, H1, I1, r1, v, rfl, q1⟩) fun _ _ z => z)
/-- x(e), e comes to one of the lambdas -/
theorem pe_lamV {TT : (XK → Hp → VK → Prop) → Hp → VK → Prop} {x a : Str} {g : Addr} {k : Nat} {pg : Arguments} {bg : List Stmt} {sg : Scope} {dV kV doc pm cdv ct oc : Value} {an od : Option Addr} {osl : Array (Option Value)} {Ng : List Str}
    {e : Expr} {p pos : Pos} (hg : Gl X x) (hm : X.mg x = some (.ref g)) (hk : PySem.W.keepIn X.K (.ref g) = true)
    (lk : X.K.lookup g = some ⟨oc, od, .func (PySem.W.fnOf x x pg bg sg dV kV doc pm an cdv ct), osl⟩) (hcg : PySem.W.codeIn X.K cdv x = true) (hb : L2.Binds X.K (PySem.W.fnOf x x pg bg sg dV kV doc pm an cdv ct) [a] []) (Sg : FnScope Ng [a] sg) (hNg : Ng[0]? = some a) (hva : Vis sg a)
    (hG : GivesTo X Ng x sg g cdv bg a (X.env.qual ++ "<lambda>") TT) (hr : Room (k + 2) X.A)
    (he : starEach [e] X.env = [(false, eval e X.env)] := by rfl) (hdb : (x == ("__debug__" : Str)) = false := by decide) (hd : (a == ("__debug__" : Str)) = false := by decide) (hcd : (a == ("__classdict__" : Str)) = false := by decide) :
    PE X (.Call (.Name x p) [e] [] pos) (fun σ H Q => semE X e σ H fun v H1 => ∃ (f : Addr) (l : Lam) (is : List Nat) (t : XK → TE), v = .ref f ∧ LamH (X.env.qual ++ "<lambda>") X.env.cells H1 l f ∧ LamK X.env.scope l.sc ∧ OutOf X.N l.sc is ∧ LamP l ∧
      (∀ (A : Around) (outer : List Env) (s : Shared) (H : Hp) (E : XK) (f c' : Addr), Room k (A.deeper (lamEnv X l.sc s.heap.objs.size f c')) → PE (lamCx X A outer s H E l.sc f c') l.be (t E)) ∧
      ∀ (dV : Value) (c' : Addr), LamAt (X.env.qual ++ "<lambda>") X.env.cells H1 l f dV c' → TT (fun E H' Q' => LamAt (X.env.qual ++ "<lambda>") X.env.cells H' l f dV c' ∧ t E (L2.wipe σ is) H' Q') H1 Q) := by
  refine ⟨fun pins s σ H Q I h => ?_⟩
  refine wpAny_Call_Name_kw (ld_glob I hg hm ?_ hdb)
  refine PySem.W.callWith_K (h₀ := X.base) I.ok.mod.kin hk ?_ he (by rfl)
  refine thn (arg_run he h I pos) fun us s1 ⟨vs, H1, I1, rv, v, ev, f, l, is, t, e1, ⟨dL, c', la, hdl⟩, L, O, hp, hbody, hTT⟩ => ?_
  subst ev e1
  obtain ⟨u, rfl, ru⟩ := rv.one
  obtain rfl : u = Value.ref f := ru
  refine ⟨I1.kIn, ?_⟩
  have rc : codeAny (model X.prog X.w) X.A (.call (.ref g) ⟨[.ref f], []⟩) (CR C8.CX0 X.stack X.prog X.w H1 s1 Q C8.E0) s1 := by
    refine run_ofS (N := Ng) (ps := [a]) (us := [.ref f]) (vs := [.ref f]) lk hcg Sg hr I1.env0 (hb s1 [.ref f] I1.kIn rfl) (.cons rfl .nil) rfl fun hr' => ?_
    obtain ⟨t', ht', hq'⟩ := hG f c' s1 H1 Q (fun E H' Q' => LamAt (X.env.qual ++ "<lambda>") X.env.cells H' l f dL c' ∧ t E (L2.wipe σ is) H' Q')
      (fun W pn xe E p1 p2 tk hW => ⟨fun pz sz σz Hz Qz Iz hz => (act_lam (i := 0) I1 L O hp hdl tk hW hr' (fun A outer s H hr2 => hbody A outer s H E f c' hr2) hNg hva hd hcd).run pz sz σz Hz Qz Iz ⟨hz.1, hz.2.2.1, hz.2.2.2⟩⟩) la.c (hTT dL c' la)
    exact ⟨t', ht'.nox, hq'⟩
  refine wpAny_call (codeAny_mono rc fun r s2 hq => ?_)
  cases r with
  | error e => exact (show False from hq).elim
  | ok fl =>
    cases fl with
    | ret u => exact I1.after hq
    | next => exact hq.elim
    | brk => exact hq.elim
    | cont => exact hq.elim
end
/-- each of the lambdas raises C -/
inductive LX (F : Fm) (X : Cx) (δ : DE) (j : Nat) (C : Addr) : List Lam → Prop
  | nil : LX F X δ j C []
  | cons {l : Lam} {ls : List Lam} {N : List Str} (is : List Nat) : X.N = N → outB N l.sc is = true → (∀ (A : Around) (outer : List Env) (s : Shared) (H : Hp) (E : XK) (f c' : Addr), Room j (A.deeper (lamEnv X l.sc s.heap.objs.size f c')) → VEX F (lamCx X A outer s H E l.sc f c') l.be (wipeD δ is) (fun H' => E (.ref C) none H')) → LX F X δ j C ls → LX F X δ j C (l :: ls)
theorem LX.get {F : Fm} {X : Cx} {δ : DE} {j : Nat} {C : Addr} : ∀ {ls : List Lam}, LX F X δ j C ls → ∀ l ∈ ls, ∃ is, OutOf X.N l.sc is ∧ ∀ (A : Around) (outer : List Env) (s : Shared) (H : Hp) (E : XK) (f c' : Addr), Room j (A.deeper (lamEnv X l.sc s.heap.objs.size f c')) → VEX F (lamCx X A outer s H E l.sc f c') l.be (wipeD δ is) (fun H' => E (.ref C) none H')
  | _, .nil, l, h => by cases h
  | _, .cons is n a b t, l, h => by
    rcases List.mem_cons.mp h with rfl | h
    · exact ⟨is, by rw [n]; exact out_by a, b⟩
    · exact t.get l h
section
variable {F : Fm} {X : Cx} {δ : DE}
/-- x(ws[i]), ws a list of lambdas that raise -/
theorem vd_wrL {x a e n z w cn wx : Str} {N' : List Str} {st : Stmt} {C R L0 : Addr} {j1 j nn : Nat} {b₀ : Stmt} {suite : List Stmt} {ie : Expr} {ls : List Lam} {p pw pi pos p1 p2 p3 p4 p10 p11 p12 p13 : Pos} (iw : Nat)
    (hL : HasLams F (X.env.qual ++ "<lambda>") X.env.cells X.env.scope L0 ls) (hr : Room nn X.A) (hj : j + 2 ≤ nn) (er : Err2 X.K X.mg cn e C R) (T : At X.K X.mg x st [a]) (Sg : FnScope (a :: n :: N') [a] (defScope st))
    (hB : ∀ (s : Shared) (H : Hp) (g : Addr) (cdv : Value) (y : Addr) (oe : Obj) (pn : List (Addr × Obj)), Zc (.ref C) none oe → (∃ vs, oe.data = .fields vs) →
      VS (Fm.pure fun _ => False) ((cxOf C8.CX0 X.prog X.w X.K X.mg X.base (a :: n :: N') x (defScope st) g cdv X.A X.stack s H C8.E0).nox.suite y ((y, oe) :: pn)) (b₀ :: suite) (none :: some (.raw (.ref y)) :: List.replicate N'.length none) { nx := fun _ => False, rt := fun d => d = .str w })
    (hi : VE F X ie δ fun d => ∃ k : Int, d = .int k ∧ 0 ≤ k ∧ k < ls.length) (hx : LX F X δ j C ls)
    (hbody : defBody st = [.Try [.Expr (.Call (.Name a p1) [] [] p2) p3] [.ExceptHandler (some (.Name e p4)) (some n) (b₀ :: suite) p10] [] [] p11, .Return (some (.Constant (.str z) j1 p12)) p13] := by rfl)
    (hd0 : δ[iw]? = some (some (.raw (.ref L0))) := by rfl) (hw : X.N[iw]? = some wx := by rfl) (hv : Vis X.env.scope wx := by first | exact Or.inl rfl | exact Or.inr (Or.inl rfl) | exact Or.inr (Or.inr rfl)) (hdw : (wx == ("__debug__" : Str)) = false := by decide) (hcw : (wx == ("__classdict__" : Str)) = false := by decide) (hpl : PlainIx ie := by intro _ _; rfl)
    (hdb : (x == ("__debug__" : Str)) = false := by decide) (hd : (a == ("__debug__" : Str)) = false := by decide) (hcd : (a == ("__classdict__" : Str)) = false := by decide)
    (hge : (defScope st).names.lookup e = some .globalImplicit := by rfl) (hde : (e == ("__debug__" : Str)) = false := by decide)
    (hn : (defScope st).names.lookup n = some .local := by rfl) (hva : Vis (defScope st) a := by first | exact Or.inl rfl | exact Or.inr (Or.inl rfl)) (hg : Gl X x := by rfl) :
    VD F X (.Call (.Name x p) [.Subscript (.Name wx pw) ie pi] [] pos) δ (.str w) := fun σ H Q o s q => by
  obtain ⟨g, fd, Fu, hm, hb⟩ := T.ex
  obtain ⟨oc, od, kV, doc, pm, an, cdv, ct, osl, rfl, lk, hcg⟩ := Fu.ex
  rw [hbody] at lk hb
  refine (pe_lamV (TT := TWr C (.str w) (.str z)) (k := j) (Ng := a :: n :: N') hg hm Fu.kp lk hcg hb Sg rfl hva (wr_gives Sg.nd hge er.r hde hn er.e (fun s H y oe pn h1 h2 => hB s H _ _ y oe pn h1 h2)) (hr.mono hj) rfl hdb hd hcd).sem ?_
  obtain ⟨v0, h1, h2⟩ := s.at_ iw _ hd0
  have h2' : v0 = .ref L0 := h2
  subst h2'
  refine (pe_ix ix_list (pe_var (i := iw) hw hv hdw hcw) (pe_sem X ie) hpl).sem ⟨_, h1, hi σ H _ o s fun v H1 d e1 o1 n1 ⟨k, ek, k0, k1⟩ => ?_⟩
  subst ek
  obtain ⟨fs, a1, a2⟩ := hL.h H1 o1.1
  obtain ⟨l, _, hl, hm'⟩ := atI_int (xs := ls) k0 k1
  obtain ⟨f, hf, hlam⟩ := a2.get hl
  obtain ⟨y, hy, hy2, _⟩ := atI_int (xs := fs.map V.ref) k0 (by rw [List.length_map, a2.len]; exact k1)
  obtain rfl : y = .ref f := by
    rw [List.getElem?_map, hf] at hy2
    exact (Option.some.inj hy2).symm
  obtain ⟨is, hO, hX⟩ := hx.get l hm'
  refine ⟨L0, _, k, _, rfl, n1.sc rfl, .inl (.of a1), hy, f, l, is, fun E σ H Q => ∀ (A : Around) (outer : List Env) (s : Shared) (H0 : Hp) (f c' : Addr), Room j (A.deeper (lamEnv X l.sc s.heap.objs.size f c')) → semE (lamCx X A outer s H0 E l.sc f c') l.be σ H Q,
    rfl, hlam, (hL.k l hm').1, hO, (hL.k l hm').2, fun A outer s H E f' c' hr' => ⟨fun pins s' σ H' Q I h => h A outer s H f' c' hr' pins s' I⟩, fun dV c' la => ?_⟩
  exact ⟨la, fun A outer s' H0 f c' hr' => hX A outer s' H0 _ f c' hr' _ H1 _ o1 ((o.all s e1).wipe is) fun H' e' o' => ⟨rfl, rfl, fun H'' e2 => q (.str w) H'' (.str w) ((e1.trans e').trans e2.of0) (o'.mono e2) (.str w) rfl⟩⟩
end
end Dl
set_option Elab.async false
set_option linter.all false
set_option maxRecDepth 100000
set_option maxHeartbeats 4000000
/-! Dq: list.index, list.count of plain values; a tuple n times (n is 1 too), of which is known that it has no dict -/
namespace Dl
open PySem PySem.Spec PyProof.Rows L2
/-! ### tuple * n -/
theorem tup_times1 (l : Addr) (items : Array Value) (n : Nat) (dd : Option Addr) (sl : Array (Option Value)) (u : Tok) :
    Meets (Builtin.«tuple.__mul__» ⟨[.ref l, .int 1 u], []⟩) (fun _ R s => s.heap.get? l = some { cls := .type "tuple", dict := dd, data := .seq items n, slots := sl } ∧ R (.ok (.ret (Value.ref l))) s) :=
  .of_wp fun prog w A R s h => by
    obtain ⟨hp, g, d, tk, os⟩ := s
    obtain ⟨hl, h⟩ := h
    have f1 := AutoSeq1.idx_int
    wp_walk using wpAny_loadPart' hl
    repeat (first
      | (refine wpAny_ite_false (decide_eq_false (by decide)) ?_; wp_walk using wpAny_loadPart' hl)
      | (refine wpAny_ite_true (decide_eq_true (by simp)) ?_; wp_walk using wpAny_loadPart' hl))
    exact ⟨_, rfl, h⟩
def rTimesT (K : PySem.W.Frag) : R2 := fun x y H Q => ∃ l k xs, x = .ref l ∧ y = .int k ∧ SqT K H l xs ∧ xs ≠ [] ∧
  ((k = 1 ∧ Q (.ref l) H) ∨ (2 ≤ k ∧ k ≤ 1000 ∧ xs.length ≤ 1000 ∧ ∀ p o, o.dict = none → H p = none → Q (.ref p) (upd H p (.frz o (.tup (List.replicate k.toNat xs).flatten)))))
section
variable {X : Cx}
theorem op_timesT : OpR X (binaryOp .Mult) (rTimesT X.K) := by
  intro pins s σ H x y v u Q I rx ry h
  obtain ⟨l, k, xs, rfl, rfl, hT, hne, q⟩ := h
  cases rx
  obtain ⟨t, rfl⟩ := ry
  obtain ⟨its, r, ⟨⟨cls, dd, data, sl⟩, ho, hc, n, hd⟩, _⟩ := I.tuple hT
  simp only at hc hd
  subst hc hd
  have same : its.length = xs.length := r.length.symm
  have full : its.toArray.isEmpty = false := by
    cases its with
    | nil => exact absurd (List.eq_nil_of_length_eq_zero same.symm) hne
    | cons a b => rfl
  -- int first declines, then the tuple's own
  refine wpAny_binaryOp_repeat_ref (T := "tuple") (U := "int") (by decide) ⟨_, ho, rfl⟩ (fun s' => typeIs_int s' k t) noFill_tuple_mul F.fills_int_mul F.slot_int_rmul repeat_tuple F.slot_int_index.lookup
    (call_meets F.slot_int_rmul (typeIs_int s k t) F.entry_int_rmul (F.args_int_rmul_2 _ _) (int_rmul_tuple k t l its.toArray n dd sl) ⟨ho, rfl, ⟨_, ho, rfl⟩, ?_⟩)
  rcases q with ⟨k1, q⟩ | ⟨k2, k3, hz, q⟩
  · subst k1
    exact call_meets F.slot_tuple_mul ⟨_, ho, rfl⟩ F.entry_tuple_mul (F.args_tuple_mul_2 _ _) (tup_times1 l its.toArray n dd sl t) ⟨ho, .ref l, H, I, rfl, q⟩
  · have len2 : (List.replicate k.toNat its).flatten.length ≤ sizeLine := by
      rw [PyProof.Rows.lm_len_rep_flat, same, sizeLine_eq]
      have : k.toNat * xs.length ≤ 1000 * 1000 := Nat.mul_le_mul (by omega) hz
      omega
    have prod : ((its.toArray.size : Nat) : Int) * k ≤ 1000000 := by
      rw [List.size_toArray, same]
      have : ((xs.length : Nat) : Int) * k ≤ 1000 * k := Int.mul_le_mul_of_nonneg_right (by omega) (by omega)
      omega
    refine call_meets F.slot_tuple_mul ⟨_, ho, rfl⟩ F.entry_tuple_mul (F.args_tuple_mul_2 _ _) (tuple_mulW l its.toArray n dd sl k t ?_ ?_ ?_ (by omega) ?_ (by rw [size_rep, List.size_toArray]; exact len2)) ⟨ho, ?_⟩
    · rw [decide_eq_false (by omega), decide_eq_false (by omega)]; rfl
    · rw [full, Bool.false_or]; exact beq_eq_false_iff_ne.mpr (by omega)
    · rw [full, Bool.or_false]; exact decide_eq_false (by omega)
    · unfold Builtin.Tuple.tupleTooMany; rw [sizeLine_eq]; exact decide_eq_false (by omega)
    · rw [size_rep]
      have rl : (List.replicate k.toNat xs).flatten.length ≤ sizeLine := by rw [PyProof.Rows.lm_len_rep_flat, ← same, ← PyProof.Rows.lm_len_rep_flat]; exact len2
      exact ⟨.ref s.heap.objs.size, _, I.laid (t' := s.toks) (fun b o e => Heap.get?_push_of_some _ e) (Nat.le_refl _) (frz_ok rl (r.rep k.toNat) (Heap.get?_push_size _ rfl)), rfl, q _ _ rfl (I.hok.fresh (Nat.le_refl _))⟩
variable {F : Fm} {δ : DE} {a b e : Expr} {pos : Pos} {ds : List PyData} {d : PyData} {k : Int}
theorem DnAll.rep {K : PySem.W.Frag} {S : AS} {H : Hp} {vs : List V} {ds : List PyData} (h : DnAll K S H vs ds) : ∀ n : Nat, DnAll K S H (List.replicate n vs).flatten (List.replicate n ds).flatten
  | 0 => .nil
  | n + 1 => by
    rw [List.replicate_succ, List.replicate_succ, List.flatten_cons, List.flatten_cons]
    exact DnAll.append h (DnAll.rep h n)
theorem opd_timesT {K : PySem.W.Frag} (hx : ds ≠ []) (h1 : 1 ≤ k) (h2 : k ≤ 1000) (hl : ds.length ≤ 1000) : OpD K (rTimesT K) (.tuple ds) (.int k) (.tuple (List.replicate k.toNat ds).flatten) := fun S H vx vy Q hS nx ny q => by
  have nx0 := nx
  cases nx with
  | @tup a xs _ sx ax =>
    refine ⟨a, k, xs, rfl, ny.sc rfl, sx.sq, fun z => hx (List.eq_nil_of_length_eq_zero (by rw [← ax.length, z]; rfl)), ?_⟩
    by_cases e : k = 1
    · subst e
      refine .inl ⟨rfl, q _ H (.refl H) ?_⟩
      rw [show (List.replicate (1 : Int).toNat ds).flatten = ds by simp]
      exact nx0
    · exact .inr ⟨by omega, h2, by rw [ax.length]; exact hl, fun p o hd hp => q _ _ (.new hp) (.tup (.inl ⟨fun z => hS _ z hp, o, hd, upd_same⟩) (Dn.monoAll (C := C0) (fun _ _ z => z.elim) (.new hp) _ _ (ax.rep _)))⟩
/-- t * n -/
theorem vd_timesT (ha : VD F X a δ (.tuple ds)) (hb : VD F X b δ (.int k)) (hx : ds ≠ []) (h1 : 1 ≤ k) (h2 : k ≤ 1000) (hl : ds.length ≤ 1000) : VD F X (.BinOp a .Mult b pos) δ (.tuple (List.replicate k.toNat ds).flatten) := vd_op op_timesT (opd_timesT hx h1 h2 hl) ha hb
/-- () + t is t -/
def rCatT0 (K : PySem.W.Frag) : R2 := fun x y H Q => ∃ a b ys, x = .ref a ∧ y = .ref b ∧ SqT K H a [] ∧ SqT K H b ys ∧ Q (.ref b) H
theorem op_catT0 : OpR X (binaryOp .Add) (rCatT0 X.K) := by
  intro pins s σ H x y v u Q I rx ry h
  obtain ⟨a, b, ys, rfl, rfl, ha, hb, q⟩ := h
  cases rx
  cases ry
  obtain ⟨i1, r1, t1, _⟩ := I.tuple ha
  obtain ⟨i2, r2, t2, z2⟩ := I.tuple hb
  cases r1
  exact cat_tup0 t1 t2 ⟨.ref b, H, I, rfl, q⟩
theorem vd_catT0 (ha : VD F X a δ (.tuple [])) (hb : VD F X b δ (.tuple ds)) : VD F X (.BinOp a .Add b pos) δ (.tuple ds) := vd_op op_catT0 (fun S H vx vy Q hS nx ny q => by
  have ny0 := ny
  cases nx with
  | tup sx ax =>
    cases ax
    cases ny with
    | tup sy ay => exact ⟨_, _, _, rfl, rfl, sx.sq, sy.sq, q _ H (.refl H) ny0⟩) ha hb
/-! ### l.count(x), l.index(x) -/
def rCntL (X : Cx) : V → List V → Hp → VK → Prop := fun x xs H Q => ∃ (p : Addr) (vs : List V) (v : V) (ds : List PyData) (d : PyData), x = .ref p ∧ xs = [v] ∧ SqL X.K H p vs ∧ DpAll X.K H vs ds ∧ Dp X.K H v d ∧ PyData.plainAll ds = true ∧ d.plain = true ∧ X.A.units + 1 + min (PyData.depthAll ds) d.depth < cLine ∧ Q (.int (ds.countP fun y => PyData.eqv y d : Nat)) H
theorem mt_countL : MtR X "list.count" (rCntL X) := by
  intro pins s σ H x xs v us Q I rx rxs h
  obtain ⟨p, vs, w, ds, d, rfl, rfl, hs, hds, hd, h1, h2, h3, q⟩ := h
  cases rx
  obtain ⟨u, rfl, ru⟩ := rxs.one
  obtain ⟨its, rv, pl, _⟩ := I.list hs
  obtain ⟨as, r1⟩ := Dp.readsAll I ds _ _ hds rv
  obtain ⟨bs, r2⟩ := Dp.reads I d _ _ hd ru
  exact PySem.SeqAt.count_list_data pl.isList (by simpa using r1) r2 h1 h2 h3 ⟨.int _, H, I.tok _, ⟨_, rfl⟩, q⟩
theorem vd_countL {apos : Pos} (ha : VD F X e δ (.list ds)) (hb : VD F X a δ d) (h1 : PyData.plainAll ds = true) (h2 : d.plain = true) (hu : X.A.units + 64 < cLine) (h3 : d.depth = 0)
    (hbase : attributeBase e "count" X.env (eval e X.env) = eval e X.env := by rfl)
    (hfew : ((backTo pos (starEach [a] X.env)).all (fun x => !x.1) && (backToKw pos (keywordEach [] X.env)).all (fun x => x.1.isSome) && decide (([a] : List Expr).length + ([] : List Keyword).length + (if ([] : List Keyword).isEmpty then 0 else 1) < 30)) = true := by rfl)
    (hline : (apos.endLine == pos.line) = true := by rfl) (hs : starEach [a] X.env = (false, eval a X.env) :: starEach [] X.env := by rfl) (hpl : (backTo pos (starEach [] X.env)).any (·.1) = false := by rfl) :
    VD F X (.Call (.Attribute e "count" apos) [a] [] pos) δ (.int (ds.countP fun y => PyData.eqv y d : Nat)) := fun σ H Q o s q =>
  (pe_bm PySem.F.plainAttrs_list PySem.F.slot_list_count PySem.F.type_list_count mt_countL (pe_sem X e) (pa_cons (pe_sem X a) pa_nil hs) hbase hfew hline hs hpl).sem (ha σ H _ o s fun v H1 d1 e1 o1 n1 kd => by
    subst kd
    have n1' := n1
    cases n1 with
    | lst sq al => exact ⟨.inl ⟨rfl, _, sq.sq⟩, hb σ H1 _ o1 (o.all s e1) fun v2 H2 d2 e2 o2 n2 kd2 => by
        subst kd2
        have n3 := Dn.mono F.sub e2 _ _ n1'
        cases n3 with
        | lst sq3 al3 => exact ⟨_, _, _, _, _, rfl, rfl, sq3.sq, Dn.dpAll _ _ al3, Dn.dp _ _ n2, h1, h2, by rw [h3, Nat.min_zero]; omega, q _ H2 _ (e1.trans e2) o2 (.int _) rfl⟩⟩)
theorem vd_indexL {apos : Pos} {j : Nat} {z : PyData} (ha : VD F X e δ (.list ds)) (hb : VD F X a δ d) (hu : X.A.units + 65 < cLine) (h1 : SeqAt.shaped (.list ds) = true) (h2 : SeqAt.shaped d = true) (h3 : ds[j]? = some z) (h4 : PyData.eqv z d = true) (h5 : ∀ (m : Nat) (z' : PyData), m < j → ds[m]? = some z' → PyData.eqv z' d = false)
    (hbase : attributeBase e "index" X.env (eval e X.env) = eval e X.env := by rfl)
    (hfew : ((backTo pos (starEach [a] X.env)).all (fun x => !x.1) && (backToKw pos (keywordEach [] X.env)).all (fun x => x.1.isSome) && decide (([a] : List Expr).length + ([] : List Keyword).length + (if ([] : List Keyword).isEmpty then 0 else 1) < 30)) = true := by rfl)
    (hline : (apos.endLine == pos.line) = true := by rfl) (hs : starEach [a] X.env = (false, eval a X.env) :: starEach [] X.env := by rfl) (hpl : (backTo pos (starEach [] X.env)).any (·.1) = false := by rfl) :
    VD F X (.Call (.Attribute e "index" apos) [a] [] pos) δ (.int (j : Nat)) := fun σ H Q o s q =>
  (pe_bm PySem.F.plainAttrs_list PySem.F.slot_list_index PySem.F.type_list_index (mt_indexD hu) (pe_sem X e) (pa_cons (pe_sem X a) pa_nil hs) hbase hfew hline hs hpl).sem (ha σ H _ o s fun v H1 d1 e1 o1 n1 kd => by
    subst kd
    have n1' := n1
    cases n1 with
    | lst sq al => exact ⟨.inl ⟨rfl, _, sq.sq⟩, hb σ H1 _ o1 (o.all s e1) fun v2 H2 d2 e2 o2 n2 kd2 => by
        subst kd2
        exact ⟨_, _, _, _, j, z, rfl, rfl, Dn.dp _ _ (Dn.mono F.sub e2 _ _ n1'), Dn.dp _ _ n2, h1, h2, h3, h4, h5, q _ H2 _ (e1.trans e2) o2 (.int _) rfl⟩⟩)
end
end Dl
set_option Elab.async false
set_option linter.all false
set_option maxRecDepth 100000
set_option maxHeartbeats 4000000
/-! Fx: sets of rules, the greatest span -/
namespace Fx
open PySem PySem.Spec PyProof.Rows L2 Dl
/-- the greatest span with which all is well -/
def GS (k : Nat → Bool) (d : PyData) : Prop := (∃ s : Nat, s ≤ 20 ∧ k s = true ∧ (∀ t, t ≤ 20 → s < t → k t = false) ∧ d = .int s) ∨ ((∀ t, t ≤ 20 → k t = false) ∧ d = .none)
theorem GS.ex (k : Nat → Bool) : ∃ d, GS k d := by
  have aux : ∀ n, n ≤ 21 → (∃ s, s < n ∧ k s = true ∧ ∀ t, t < n → s < t → k t = false) ∨ ∀ t, t < n → k t = false := by
    intro n
    induction n with
    | zero => intro _; right; intro t h; omega
    | succ n ih =>
      intro hn
      cases hk : k n with
      | true => exact .inl ⟨n, by omega, hk, fun t h1 h2 => by omega⟩
      | false =>
        rcases ih (by omega) with ⟨s, h1, h2, h3⟩ | h
        · refine .inl ⟨s, by omega, h2, fun t h4 h5 => ?_⟩
          rcases (show t < n ∨ t = n by omega) with z | z
          · exact h3 t z h5
          · rw [z]; exact hk
        · refine .inr fun t h4 => ?_
          rcases (show t < n ∨ t = n by omega) with z | z
          · exact h t z
          · rw [z]; exact hk
  rcases aux 21 (Nat.le_refl _) with ⟨s, h1, h2, h3⟩ | h
  · exact ⟨_, .inl ⟨s, by omega, h2, fun t a b => h3 t (by omega) b, rfl⟩⟩
  · exact ⟨_, .inr ⟨fun t a => h t (by omega), rfl⟩⟩
end Fx
set_option Elab.async false
set_option linter.all false
set_option maxRecDepth 100000
set_option maxHeartbeats 4000000
/-! for k08: the odd values of the law -/
namespace Fx
open PySem PySem.Spec PyProof.Rows L2 Dl
def noRule (v : PyData) : Prop := v.plain = true ∧ ((Rule.all.map fun r => PyData.str r.s).any fun z => PyData.eqv z v) = false
theorem odd_rules {x : PyData} (h : x ∈ [PyData.none, .str "", .str "Average", .str "sum", .int 0, .tuple [.str "average"], .str "squares "]) : noRule x := by
  simp only [List.mem_cons, List.not_mem_nil, or_false] at h
  rcases h with rfl | rfl | rfl | rfl | rfl | rfl | rfl <;> exact ⟨rfl, by decide +kernel⟩
def oddDy : List PyData := [.none, .tuple [], .tuple [.int 1], .list [.int 1, .int 0], .tuple [.int 0, .int 1], .tuple [.int 2, .int 0], .tuple [.int 4, .int 1], .tuple [.int 1, .int 401], .tuple [.int 1, .int (-401)], .tuple [.int (10 ^ 40 + 1), .int 0], .tuple [.bool true, .int 0], .tuple [.int 1, .bool true], .tuple [.int 1, .int 0, .int 0], .str "1", .int 1, .tuple [.int 1, .none]]
theorem odd_dy {x : PyData} (h : x ∈ oddDy) : dyB x = false := by
  unfold oddDy at h
  simp only [List.mem_cons, List.not_mem_nil, or_false] at h
  rcases h with rfl | rfl | rfl | rfl | rfl | rfl | rfl | rfl | rfl | rfl | rfl | rfl | rfl | rfl | rfl | rfl <;> decide +kernel
def oddFr : List (PyData × PyData) := [(.none, .int 1), (.int 1, .int 0), (.int 1, .int (-1)), (.int 1, .none), (.int (10 ^ 60 + 1), .int 1), (.int 1, .int (10 ^ 60 + 1)), (.bool true, .int 1), (.int 1, .bool true), (.str "1", .int 1)]
theorem odd_fr {x : PyData × PyData} (h : x ∈ oddFr) : (within x.1 (-(10 ^ 60)) (10 ^ 60) && within x.2 1 (10 ^ 60)) = false := by
  unfold oddFr at h
  simp only [List.mem_cons, List.not_mem_nil, or_false] at h
  rcases h with rfl | rfl | rfl | rfl | rfl | rfl | rfl | rfl | rfl <;> decide +kernel
/-- a text that is no mode, no way of tiny, of huge -/
def oddF (f : Form) : List PyData :=
  let P := PyData.int f.p; let L := PyData.int f.low; let H := PyData.int (f.low + f.e); let M := PyData.str f.mode.s; let G := PyData.str (tinyS f.g); let I := PyData.str (hugeS f.inf)
  [.none, .tuple [], .list [P, L, H, M, G, I], .tuple [P, L, H, M, G], .tuple [P, L, H, M, G, I, .int 0], .tuple [.int 3, L, H, M, G, I], .tuple [.int 11, L, H, M, G, I], .tuple [.int 4, .int 1, .int 0, M, G, I], .tuple [.int 4, .int (-41), .int (-30), M, G, I], .tuple [.int 4, .int 30, .int 41, M, G, I],
   .tuple [.int 4, .int 0, .int 21, M, G, I], .tuple [.bool true, .int 0, .int 0, M, G, I], .tuple [.int 4, .int 0, .none, M, G, I], .tuple [P, L, H, .str "Even", G, I], .tuple [P, L, H, M, .str "slow", .str "largest"], .tuple [P, L, H, M, G, .str "inf"], .tuple [P, L, H, M, G, .int 0], .tuple [P, L, H, .none, G, I], .str "format"]
theorem fmt_no {p h b c d : PyData} {l : Int} (z : within p 4 10 = false ∨ within (.int l) (-40) 40 = false ∨ within h l (min (l + 20) 40) = false ∨ inF b [.str ("even" : Str), .str ("away" : Str), .str ("down" : Str), .str ("up" : Str), .str ("zero" : Str)] = false ∨ inF c [.str ("gradual" : Str), .str ("flush" : Str)] = false ∨ inF d [.str ("infinite" : Str), .str ("largest" : Str)] = false) : fmtB (.tuple [p, .int l, h, b, c, d]) = false := by
  show (within p 4 10 && (within (.int l) (-40) 40 && (within h l (min (l + 20) 40) && (inF b _ && (inF c _ && inF d _))))) = false
  rcases z with z | z | z | z | z | z <;> rw [z] <;> simp
theorem odd_fmt {f : Form} {x : PyData} (h : x ∈ oddF f) : fmtPre x ∧ fmtB x = false := by
  unfold oddF at h
  simp only [List.mem_cons, List.not_mem_nil, or_false] at h
  rcases h with rfl | rfl | rfl | rfl | rfl | rfl | rfl | rfl | rfl | rfl | rfl | rfl | rfl | rfl | rfl | rfl | rfl | rfl | rfl
  · exact ⟨trivial, rfl⟩
  · exact ⟨trivial, rfl⟩
  · exact ⟨trivial, rfl⟩
  · exact ⟨trivial, rfl⟩
  · exact ⟨trivial, rfl⟩
  · exact ⟨⟨rfl, rfl, rfl⟩, fmt_no (.inl rfl)⟩
  · exact ⟨⟨rfl, rfl, rfl⟩, fmt_no (.inl rfl)⟩
  · exact ⟨⟨rfl, rfl, rfl⟩, fmt_no (.inr (.inr (.inl rfl)))⟩
  · exact ⟨⟨rfl, rfl, rfl⟩, fmt_no (.inr (.inl rfl))⟩
  · exact ⟨⟨rfl, rfl, rfl⟩, fmt_no (.inr (.inr (.inl rfl)))⟩
  · exact ⟨⟨rfl, rfl, rfl⟩, fmt_no (.inr (.inr (.inl rfl)))⟩
  · exact ⟨⟨rfl, rfl, rfl⟩, fmt_no (.inl rfl)⟩
  · exact ⟨⟨rfl, rfl, rfl⟩, fmt_no (.inr (.inr (.inl rfl)))⟩
  · exact ⟨⟨rfl, rfl, rfl⟩, fmt_no (.inr (.inr (.inr (.inl (show inF (.str "Even") _ = false by decide +kernel)))))⟩
  · exact ⟨⟨rfl, rfl, rfl⟩, fmt_no (.inr (.inr (.inr (.inr (.inl (show inF (.str "slow") _ = false by decide +kernel))))))⟩
  · exact ⟨⟨rfl, rfl, rfl⟩, fmt_no (.inr (.inr (.inr (.inr (.inr (show inF (.str "inf") _ = false by decide +kernel))))))⟩
  · exact ⟨⟨rfl, rfl, rfl⟩, fmt_no (.inr (.inr (.inr (.inr (.inr (show inF (.int 0) _ = false by decide +kernel))))))⟩
  · exact ⟨⟨rfl, rfl, rfl⟩, fmt_no (.inr (.inr (.inr (.inl (show inF .none _ = false by decide +kernel)))))⟩
  · exact ⟨trivial, rfl⟩
/-! ### dyadics that are no numbers of the format -/
theorem far_dy {f : Form} {v : PyData} (h : dyB v = false) : hasB f v = false := by unfold hasB; rw [h]; rfl
theorem far_low {f : Form} : hasB f (.tuple [.int 1, .int (f.low - 1)]) = false := by
  have h : stB f (.tuple [.int 1, .int (f.low - 1)]) = false := by
    show (decide ((1 : Int) = 0) || (decide (f.low ≤ f.low - 1) && _)) = false
    rw [decide_eq_false (by decide), decide_eq_false (by omega)]; rfl
  unfold hasB; rw [h, Bool.and_false]
theorem far_odd {f : Form} (ok : f.Ok) : hasB f (.tuple [.int (2 * 2 ^ f.p + 1), .int f.low]) = false := by
  have p4 := ok.p4
  have hb : bln (2 * 2 ^ f.p + 1) = f.p + 1 + 1 := bln_eq (by rw [Nat.pow_succ]; omega) (by
    have : 2 ≤ 2 ^ f.p := Nat.le_trans (by decide) (Nat.pow_le_pow_right (by decide) (show 1 ≤ f.p by omega))
    rw [Nat.pow_succ, Nat.pow_succ]; omega)
  have hn : numN f (2 * 2 ^ f.p + 1) = false := by
    unfold numN
    have h1 : ¬ (2 * 2 ^ f.p + 1 < nrmN f) := by
      have : nrmN f ≤ 2 ^ f.p := Nat.pow_le_pow_right (by decide) (by omega)
      omega
    rw [if_neg h1, hb, show f.p + 1 + 1 - f.p = 2 by omega]
    have h2 : (2 * 2 ^ f.p + 1) % 2 ^ 2 = 1 := by
      obtain ⟨q, hq⟩ : ∃ q, f.p = q + 1 := ⟨f.p - 1, by omega⟩
      rw [hq, Nat.pow_succ]; omega
    rw [h2, show ((1 : Nat) == 0) = false from rfl, Bool.and_false]
  have h : stB f (.tuple [.int (2 * 2 ^ f.p + 1), .int f.low]) = false := by
    show (decide ((2 * 2 ^ f.p + 1 : Int) = 0) || (decide (f.low ≤ f.low) && isNum f ((2 * 2 ^ f.p + 1) * 2 ^ (f.low - f.low).toNat))) = false
    have e : ((2 * 2 ^ f.p + 1 : Int) * 2 ^ (f.low - f.low).toNat) = ((2 * 2 ^ f.p + 1 : Nat) : Int) := by
      rw [show (f.low - f.low).toNat = 0 by omega, Int.pow_zero, Int.mul_one]; simp
    rw [e, decide_eq_false (by have : (0 : Int) < 2 ^ f.p := Int.pow_pos (by decide); omega)]
    unfold isNum
    rw [Int.natAbs_natCast, hn, Bool.and_false]; rfl
  unfold hasB; rw [h, Bool.and_false]
theorem far_top {f : Form} (ok : f.Ok) : hasB f (.tuple [.int 1, .int (f.low + f.e + f.p + 1)]) = false := by
  have hn : isNum f ((2 ^ (f.e + f.p + 1) : Nat) : Int) = false := by
    cases z : isNum f ((2 ^ (f.e + f.p + 1) : Nat) : Int) with
    | false => rfl
    | true =>
      have := isNum_le ok z
      rw [Int.natAbs_natCast] at this
      unfold topN at this
      have h1 : (2 ^ f.p - 1) * 2 ^ f.e ≤ 2 ^ f.p * 2 ^ f.e := Nat.mul_le_mul_right _ (Nat.sub_le _ _)
      rw [← Nat.pow_add] at h1
      have h2 : 2 ^ (f.p + f.e) < 2 ^ (f.e + f.p + 1) := Nat.pow_lt_pow_right (by decide) (by omega)
      omega
  have h : stB f (.tuple [.int 1, .int (f.low + f.e + f.p + 1)]) = false := by
    show (decide ((1 : Int) = 0) || (decide (f.low ≤ f.low + f.e + f.p + 1) && isNum f (1 * 2 ^ (f.low + f.e + f.p + 1 - f.low).toNat))) = false
    have e : ((1 : Int) * 2 ^ (f.low + f.e + f.p + 1 - f.low).toNat) = ((2 ^ (f.e + f.p + 1) : Nat) : Int) := by
      rw [show (f.low + f.e + f.p + 1 - f.low).toNat = f.e + f.p + 1 by omega, Int.one_mul]; simp
    rw [e, hn, Bool.and_false, decide_eq_false (by decide)]; rfl
  unfold hasB; rw [h, Bool.and_false]
end Fx
set_option Elab.async false
set_option linter.all false
set_option maxRecDepth 100000
set_option maxHeartbeats 4000000
namespace Dl
open PySem PySem.Spec PyProof.Rows L2
/-! ### more of lists and tuples -/
section
variable {F : Fm} {X : Cx} {δ : DE} {k : PyData → Prop} {e a b c : Expr} {es : List Expr} {pos p : Pos} {x : Str} {d : PyData} {ds : List PyData}
/-- list(t), t a list or a tuple -/
theorem vd_listOf (hm : X.mg "list" = none) (ha : VD F X a δ d) (hd : seqOf d = some ds) (hg : Gl X "list" := by rfl) (he : starEach [a] X.env = [(false, eval a X.env)] := by rfl) : VD F X (.Call (.Name "list" p) [a] [] pos) δ (.list ds) :=
  ve_callTy call_list_of hm (by decide +kernel) (VA.to (vl_cons ha vl_nil he) ⟨_, fun S H vs Q hS n q => by
    cases n with
    | cons n1 n2 =>
      cases n2
      obtain ⟨l, xs, rfl, sq, al⟩ := Dn.seq n1 hd
      exact ⟨_, _, rfl, sq, fun l hl => q _ _ (.new hl) (.lst ⟨fun z => hS _ z hl, upd_same⟩ (Dn.monoAll (C := C0) (fun _ _ z => z.elim) (.new hl) _ _ al))⟩, rfl⟩) hg (by decide) (by decide) he rfl
end
end Dl
set_option Elab.async false
set_option linter.all false
set_option maxRecDepth 100000
set_option maxHeartbeats 4000000
set_option exponentiation.threshold 5000
namespace T
open PySem PySem.Spec PyProof.Rows L2 Dl Fx
def topS (i : Nat) : Stmt := PySem.Challenge.pw_rulesheld_k08_whole_refused.main.body.getD i (.Pass ⟨0, 0, 0, 0⟩)
abbrev s_to_units : Stmt := topS 11
theorem sc_to_units : FnScope ["form", "number", "n", "k"] ["form", "number"] (defScope s_to_units) := ⟨rfl, rfl, rfl, by decide +kernel, rfl, by decide +kernel, by decide +kernel⟩
abbrev s_normal_units : Stmt := topS 14
theorem sc_normal_units : FnScope ["form"] ["form"] (defScope s_normal_units) := ⟨rfl, rfl, rfl, by decide +kernel, rfl, by decide +kernel, by decide +kernel⟩
abbrev s_largest_units : Stmt := topS 15
theorem sc_largest_units : FnScope ["form", "p", "low", "high"] ["form"] (defScope s_largest_units) := ⟨rfl, rfl, rfl, by decide +kernel, rfl, by decide +kernel, by decide +kernel⟩
abbrev s_are_number : Stmt := topS 16
theorem sc_are_number : FnScope ["form", "units", "size", "step"] ["form", "units"] (defScope s_are_number) := ⟨rfl, rfl, rfl, by decide +kernel, rfl, by decide +kernel, by decide +kernel⟩
abbrev s_is_within : Stmt := topS 32
theorem sc_is_within : FnScope ["value", "least", "greatest"] ["value", "least", "greatest"] (defScope s_is_within) := ⟨rfl, rfl, rfl, by decide +kernel, rfl, by decide +kernel, by decide +kernel⟩
abbrev s_is_format : Stmt := topS 33
theorem sc_is_format : FnScope ["value", "p", "low", "high", "mode", "tiny", "huge"] ["value"] (defScope s_is_format) := ⟨rfl, rfl, rfl, by decide +kernel, rfl, by decide +kernel, by decide +kernel⟩
abbrev s_is_dyadic : Stmt := topS 34
theorem sc_is_dyadic : FnScope ["value", "n", "k"] ["value"] (defScope s_is_dyadic) := ⟨rfl, rfl, rfl, by decide +kernel, rfl, by decide +kernel, by decide +kernel⟩
abbrev s_is_number : Stmt := topS 35
theorem sc_is_number : FnScope ["form", "value"] ["form", "value"] (defScope s_is_number) := ⟨rfl, rfl, rfl, by decide +kernel, rfl, by decide +kernel, by decide +kernel⟩
abbrev s_largest : Stmt := topS 36
theorem sc_largest : FnScope ["form"] ["form"] (defScope s_largest) := ⟨rfl, rfl, rfl, by decide +kernel, rfl, by decide +kernel, by decide +kernel⟩
abbrev s_smallest_normal : Stmt := topS 37
theorem sc_smallest_normal : FnScope ["form"] ["form"] (defScope s_smallest_normal) := ⟨rfl, rfl, rfl, by decide +kernel, rfl, by decide +kernel, by decide +kernel⟩
abbrev s_smallest : Stmt := topS 38
theorem sc_smallest : FnScope ["form"] ["form"] (defScope s_smallest) := ⟨rfl, rfl, rfl, by decide +kernel, rfl, by decide +kernel, by decide +kernel⟩
abbrev s_count_numbers : Stmt := topS 39
theorem sc_count_numbers : FnScope ["form", "p", "low", "high", "positive"] ["form"] (defScope s_count_numbers) := ⟨rfl, rfl, rfl, by decide +kernel, rfl, by decide +kernel, by decide +kernel⟩
abbrev s_next_up : Stmt := topS 40
theorem sc_next_up : FnScope ["form", "number", "p", "low", "high", "upward", "units"] ["form", "number"] (defScope s_next_up) := ⟨rfl, rfl, rfl, by decide +kernel, rfl, by decide +kernel, by decide +kernel⟩
abbrev s_require_format : Stmt := topS 41
theorem sc_require_format : FnScope ["form"] ["form"] (defScope s_require_format) := ⟨rfl, rfl, rfl, by decide +kernel, rfl, by decide +kernel, by decide +kernel⟩
abbrev s_require_number : Stmt := topS 42
theorem sc_require_number : FnScope ["form", "value"] ["form", "value"] (defScope s_require_number) := ⟨rfl, rfl, rfl, by decide +kernel, rfl, by decide +kernel, by decide +kernel⟩
abbrev s_has_number : Stmt := topS 43
theorem sc_has_number : FnScope ["form", "value"] ["form", "value"] (defScope s_has_number) := ⟨rfl, rfl, rfl, by decide +kernel, rfl, by decide +kernel, by decide +kernel⟩
abbrev s__stands_for_number : Stmt := topS 44
theorem sc__stands_for_number : FnScope ["form", "dyadic", "n", "k"] ["form", "dyadic"] (defScope s__stands_for_number) := ⟨rfl, rfl, rfl, by decide +kernel, rfl, by decide +kernel, by decide +kernel⟩
abbrev s_arity : Stmt := topS 46
theorem sc_arity : FnScope ["rule"] ["rule"] (defScope s_arity) := ⟨rfl, rfl, rfl, by decide +kernel, rfl, by decide +kernel, by decide +kernel⟩
abbrev s_holds_for : Stmt := topS 47
theorem sc_holds_for : FnScope ["form", "rule", "numbers", "units", "number", "check"] ["form", "rule", "numbers"] (defScope s_holds_for) := ⟨rfl, rfl, rfl, by decide +kernel, rfl, by decide +kernel, by decide +kernel⟩
abbrev s_require_rule : Stmt := topS 48
theorem sc_require_rule : FnScope ["rule"] ["rule"] (defScope s_require_rule) := ⟨rfl, rfl, rfl, by decide +kernel, rfl, by decide +kernel, by decide +kernel⟩
abbrev s__are_numbers : Stmt := topS 49
theorem sc__are_numbers : FnScope ["form", "numbers", "many", "number"] ["form", "numbers", "many"] (defScope s__are_numbers) := ⟨rfl, rfl, rfl, by decide +kernel, rfl, by decide +kernel, by decide +kernel⟩
abbrev s_holds : Stmt := topS 72
theorem sc_holds : FnScope ["form", "rule", "decide"] ["form", "rule"] (defScope s_holds) := ⟨rfl, rfl, rfl, by decide +kernel, rfl, by decide +kernel, by decide +kernel⟩
abbrev s_counterexample : Stmt := topS 73
theorem sc_counterexample : FnScope ["form", "rule", "find", "units"] ["form", "rule"] (defScope s_counterexample) := ⟨rfl, rfl, rfl, by decide +kernel, rfl, by decide +kernel, by decide +kernel⟩
abbrev s_round_to : Stmt := topS 106
theorem sc_round_to : FnScope ["form", "a", "b"] ["form", "a", "b"] (defScope s_round_to) := ⟨rfl, rfl, rfl, by decide +kernel, rfl, by decide +kernel, by decide +kernel⟩
abbrev s_add : Stmt := topS 107
theorem sc_add : FnScope ["form", "x", "y"] ["form", "x", "y"] (defScope s_add) := ⟨rfl, rfl, rfl, by decide +kernel, rfl, by decide +kernel, by decide +kernel⟩
abbrev s_subtract : Stmt := topS 108
theorem sc_subtract : FnScope ["form", "x", "y"] ["form", "x", "y"] (defScope s_subtract) := ⟨rfl, rfl, rfl, by decide +kernel, rfl, by decide +kernel, by decide +kernel⟩
abbrev s_multiply : Stmt := topS 109
theorem sc_multiply : FnScope ["form", "x", "y"] ["form", "x", "y"] (defScope s_multiply) := ⟨rfl, rfl, rfl, by decide +kernel, rfl, by decide +kernel, by decide +kernel⟩
abbrev s_divide : Stmt := topS 110
theorem sc_divide : FnScope ["form", "x", "y", "top"] ["form", "x", "y"] (defScope s_divide) := ⟨rfl, rfl, rfl, by decide +kernel, rfl, by decide +kernel, by decide +kernel⟩
abbrev s_square_root : Stmt := topS 111
theorem sc_square_root : FnScope ["form", "x", "n", "k", "square", "root", "halves"] ["form", "x"] (defScope s_square_root) := ⟨rfl, rfl, rfl, by decide +kernel, rfl, by decide +kernel, by decide +kernel⟩
abbrev s__require_operands : Stmt := topS 112
theorem sc__require_operands : FnScope ["form", "x", "y"] ["form", "x", "y"] (defScope s__require_operands) := ⟨rfl, rfl, rfl, by decide +kernel, rfl, by decide +kernel, by decide +kernel⟩
abbrev s_profile : Stmt := topS 117
theorem sc_profile : FnScope ["form", "rule"] ["form"] (defScope s_profile) := ⟨rfl, rfl, rfl, by decide +kernel, rfl, by decide +kernel, by decide +kernel⟩
abbrev s_implies : Stmt := topS 118
theorem sc_implies : FnScope ["one", "other"] ["one", "other"] (defScope s_implies) := ⟨rfl, rfl, rfl, by decide +kernel, rfl, by decide +kernel, by decide +kernel⟩
abbrev s_parting : Stmt := topS 119
theorem sc_parting : FnScope ["one", "other", "form"] ["one", "other"] (defScope s_parting) := ⟨rfl, rfl, rfl, by decide +kernel, rfl, by decide +kernel, by decide +kernel⟩
abbrev s__law_taken : Stmt := topS 122
theorem sc__law_taken : FnScope ["row", "many", "found", "cell"] ["row", "many"] (defScope s__law_taken) := ⟨rfl, rfl, rfl, by decide +kernel, rfl, by decide +kernel, by decide +kernel⟩
abbrev s__law_pick : Stmt := topS 123
theorem sc__law_pick : FnScope ["row", "kinds"] ["row", "kinds"] (defScope s__law_pick) := ⟨rfl, rfl, rfl, by decide +kernel, rfl, by decide +kernel, by decide +kernel⟩
abbrev s__law_two : Stmt := topS 124
theorem sc__law_two : FnScope ["power"] ["power"] (defScope s__law_two) := ⟨rfl, rfl, rfl, by decide +kernel, rfl, by decide +kernel, by decide +kernel⟩
abbrev s__law_format : Stmt := topS 125
theorem sc__law_format : FnScope ["row", "most", "p", "low", "high", "mode"] ["row", "most"] (defScope s__law_format) := ⟨rfl, rfl, rfl, by decide +kernel, rfl, by decide +kernel, by decide +kernel⟩
abbrev s__law_top : Stmt := topS 126
theorem sc__law_top : FnScope ["form"] ["form"] (defScope s__law_top) := ⟨rfl, rfl, rfl, by decide +kernel, rfl, by decide +kernel, by decide +kernel⟩
abbrev s__law_normal : Stmt := topS 127
theorem sc__law_normal : FnScope ["form"] ["form"] (defScope s__law_normal) := ⟨rfl, rfl, rfl, by decide +kernel, rfl, by decide +kernel, by decide +kernel⟩
abbrev s__law_least : Stmt := topS 128
theorem sc__law_least : FnScope ["form"] ["form"] (defScope s__law_least) := ⟨rfl, rfl, rfl, by decide +kernel, rfl, by decide +kernel, by decide +kernel⟩
abbrev s__law_value : Stmt := topS 129
theorem sc__law_value : FnScope ["form", "units", "n", "k"] ["form", "units"] (defScope s__law_value) := ⟨rfl, rfl, rfl, by decide +kernel, rfl, by decide +kernel, by decide +kernel⟩
abbrev s__law_rules : Stmt := topS 130
theorem sc__law_rules : FnScope ["some"] [] (defScope s__law_rules) := ⟨rfl, rfl, rfl, by decide +kernel, rfl, by decide +kernel, by decide +kernel⟩
abbrev s__law_many : Stmt := topS 131
theorem sc__law_many : FnScope ["rule"] ["rule"] (defScope s__law_many) := ⟨rfl, rfl, rfl, by decide +kernel, rfl, by decide +kernel, by decide +kernel⟩
abbrev s__law_number : Stmt := topS 132
theorem sc__law_number : FnScope ["row", "form", "n", "span", "m", "units"] ["row", "form"] (defScope s__law_number) := ⟨rfl, rfl, rfl, by decide +kernel, rfl, by decide +kernel, by decide +kernel⟩
abbrev s__law_wrong : Stmt := topS 133
theorem sc__law_wrong : FnScope ["work", "e", "known"] ["work"] (defScope s__law_wrong) := ⟨rfl, rfl, rfl, by decide +kernel, rfl, by decide +kernel, by decide +kernel⟩
abbrev s_law : Stmt := topS 134
theorem sc_law : FnScope ["script", "row", "form", "rest", "odd", "bad", "works", "one", "far", "a", "b", "rule", "some"] ["script"] (defScope s_law) := ⟨rfl, rfl, rfl, by decide +kernel, rfl, by decide +kernel, by decide +kernel⟩
/-- what the top has written -/
structure Txt (w : World) (K : PySem.W.Frag) (mg : Str → Option Value) : Prop where
  a_to_units : At K mg "to_units" s_to_units ["form", "number"]
  a_normal_units : At K mg "normal_units" s_normal_units ["form"]
  a_largest_units : At K mg "largest_units" s_largest_units ["form"]
  a_are_number : At K mg "are_number" s_are_number ["form", "units"]
  a_is_within : At K mg "is_within" s_is_within ["value", "least", "greatest"]
  a_is_format : At K mg "is_format" s_is_format ["value"]
  a_is_dyadic : At K mg "is_dyadic" s_is_dyadic ["value"]
  a_is_number : At K mg "is_number" s_is_number ["form", "value"]
  a_largest : At K mg "largest" s_largest ["form"]
  a_smallest_normal : At K mg "smallest_normal" s_smallest_normal ["form"]
  a_smallest : At K mg "smallest" s_smallest ["form"]
  a_count_numbers : At K mg "count_numbers" s_count_numbers ["form"]
  a_next_up : At K mg "next_up" s_next_up ["form", "number"]
  a_require_format : At K mg "require_format" s_require_format ["form"]
  a_require_number : At K mg "require_number" s_require_number ["form", "value"]
  a_has_number : At K mg "has_number" s_has_number ["form", "value"]
  a__stands_for_number : At K mg "_stands_for_number" s__stands_for_number ["form", "dyadic"]
  a_arity : At K mg "arity" s_arity ["rule"]
  a_holds_for : At K mg "holds_for" s_holds_for ["form", "rule", "numbers"]
  a_require_rule : At K mg "require_rule" s_require_rule ["rule"]
  a__are_numbers : At K mg "_are_numbers" s__are_numbers ["form", "numbers", "many"]
  a_holds : At K mg "holds" s_holds ["form", "rule"]
  a_counterexample : At K mg "counterexample" s_counterexample ["form", "rule"]
  a_round_to : At K mg "round_to" s_round_to ["form", "a", "b"]
  a_add : At K mg "add" s_add ["form", "x", "y"]
  a_subtract : At K mg "subtract" s_subtract ["form", "x", "y"]
  a_multiply : At K mg "multiply" s_multiply ["form", "x", "y"]
  a_divide : At K mg "divide" s_divide ["form", "x", "y"]
  a_square_root : At K mg "square_root" s_square_root ["form", "x"]
  a__require_operands : At K mg "_require_operands" s__require_operands ["form", "x", "y"]
  a_profile : At K mg "profile" s_profile ["form"]
  a_implies : At K mg "implies" s_implies ["one", "other"]
  a_parting : At K mg "parting" s_parting ["one", "other"]
  a__law_taken : At K mg "_law_taken" s__law_taken ["row", "many"]
  a__law_pick : At K mg "_law_pick" s__law_pick ["row", "kinds"]
  a__law_two : At K mg "_law_two" s__law_two ["power"]
  a__law_format : At K mg "_law_format" s__law_format ["row", "most"]
  a__law_top : At K mg "_law_top" s__law_top ["form"]
  a__law_normal : At K mg "_law_normal" s__law_normal ["form"]
  a__law_least : At K mg "_law_least" s__law_least ["form"]
  a__law_value : At K mg "_law_value" s__law_value ["form", "units"]
  a__law_rules : At K mg "_law_rules" s__law_rules []
  a__law_many : At K mg "_law_many" s__law_many ["rule"]
  a__law_number : At K mg "_law_number" s__law_number ["row", "form"]
  a__law_wrong : At K mg "_law_wrong" s__law_wrong ["work"]
  e_BadFormat : ∃ C R, Err2 K mg "BadFormat" "RuleError" C R
  e_BadDyadic : ∃ C R, Err2 K mg "BadDyadic" "RuleError" C R
  e_BadNumber : ∃ C R, Err2 K mg "BadNumber" "RuleError" C R
  e_BadFraction : ∃ C R, Err2 K mg "BadFraction" "RuleError" C R
  e_BadRule : ∃ C R, Err2 K mg "BadRule" "RuleError" C R
  e_BadNumbers : ∃ C R, Err2 K mg "BadNumbers" "RuleError" C R
  k_BadFormat_BadDyadic : ∃ C D, mg "BadFormat" = some (.ref C) ∧ mg "BadDyadic" = some (.ref D) ∧ PySem.W.kitOne K (.ref C) (.ref D) = some false
  k_BadFormat_BadNumber : ∃ C D, mg "BadFormat" = some (.ref C) ∧ mg "BadNumber" = some (.ref D) ∧ PySem.W.kitOne K (.ref C) (.ref D) = some false
  k_BadFormat_BadFraction : ∃ C D, mg "BadFormat" = some (.ref C) ∧ mg "BadFraction" = some (.ref D) ∧ PySem.W.kitOne K (.ref C) (.ref D) = some false
  k_BadFormat_BadRule : ∃ C D, mg "BadFormat" = some (.ref C) ∧ mg "BadRule" = some (.ref D) ∧ PySem.W.kitOne K (.ref C) (.ref D) = some false
  k_BadFormat_BadNumbers : ∃ C D, mg "BadFormat" = some (.ref C) ∧ mg "BadNumbers" = some (.ref D) ∧ PySem.W.kitOne K (.ref C) (.ref D) = some false
  k_BadDyadic_BadFormat : ∃ C D, mg "BadDyadic" = some (.ref C) ∧ mg "BadFormat" = some (.ref D) ∧ PySem.W.kitOne K (.ref C) (.ref D) = some false
  k_BadDyadic_BadNumber : ∃ C D, mg "BadDyadic" = some (.ref C) ∧ mg "BadNumber" = some (.ref D) ∧ PySem.W.kitOne K (.ref C) (.ref D) = some false
  k_BadDyadic_BadFraction : ∃ C D, mg "BadDyadic" = some (.ref C) ∧ mg "BadFraction" = some (.ref D) ∧ PySem.W.kitOne K (.ref C) (.ref D) = some false
  k_BadDyadic_BadRule : ∃ C D, mg "BadDyadic" = some (.ref C) ∧ mg "BadRule" = some (.ref D) ∧ PySem.W.kitOne K (.ref C) (.ref D) = some false
  k_BadDyadic_BadNumbers : ∃ C D, mg "BadDyadic" = some (.ref C) ∧ mg "BadNumbers" = some (.ref D) ∧ PySem.W.kitOne K (.ref C) (.ref D) = some false
  k_BadNumber_BadFormat : ∃ C D, mg "BadNumber" = some (.ref C) ∧ mg "BadFormat" = some (.ref D) ∧ PySem.W.kitOne K (.ref C) (.ref D) = some false
  k_BadNumber_BadDyadic : ∃ C D, mg "BadNumber" = some (.ref C) ∧ mg "BadDyadic" = some (.ref D) ∧ PySem.W.kitOne K (.ref C) (.ref D) = some false
  k_BadNumber_BadFraction : ∃ C D, mg "BadNumber" = some (.ref C) ∧ mg "BadFraction" = some (.ref D) ∧ PySem.W.kitOne K (.ref C) (.ref D) = some false
  k_BadNumber_BadRule : ∃ C D, mg "BadNumber" = some (.ref C) ∧ mg "BadRule" = some (.ref D) ∧ PySem.W.kitOne K (.ref C) (.ref D) = some false
  k_BadNumber_BadNumbers : ∃ C D, mg "BadNumber" = some (.ref C) ∧ mg "BadNumbers" = some (.ref D) ∧ PySem.W.kitOne K (.ref C) (.ref D) = some false
  k_BadFraction_BadFormat : ∃ C D, mg "BadFraction" = some (.ref C) ∧ mg "BadFormat" = some (.ref D) ∧ PySem.W.kitOne K (.ref C) (.ref D) = some false
  k_BadFraction_BadDyadic : ∃ C D, mg "BadFraction" = some (.ref C) ∧ mg "BadDyadic" = some (.ref D) ∧ PySem.W.kitOne K (.ref C) (.ref D) = some false
  k_BadFraction_BadNumber : ∃ C D, mg "BadFraction" = some (.ref C) ∧ mg "BadNumber" = some (.ref D) ∧ PySem.W.kitOne K (.ref C) (.ref D) = some false
  k_BadFraction_BadRule : ∃ C D, mg "BadFraction" = some (.ref C) ∧ mg "BadRule" = some (.ref D) ∧ PySem.W.kitOne K (.ref C) (.ref D) = some false
  k_BadFraction_BadNumbers : ∃ C D, mg "BadFraction" = some (.ref C) ∧ mg "BadNumbers" = some (.ref D) ∧ PySem.W.kitOne K (.ref C) (.ref D) = some false
  k_BadRule_BadFormat : ∃ C D, mg "BadRule" = some (.ref C) ∧ mg "BadFormat" = some (.ref D) ∧ PySem.W.kitOne K (.ref C) (.ref D) = some false
  k_BadRule_BadDyadic : ∃ C D, mg "BadRule" = some (.ref C) ∧ mg "BadDyadic" = some (.ref D) ∧ PySem.W.kitOne K (.ref C) (.ref D) = some false
  k_BadRule_BadNumber : ∃ C D, mg "BadRule" = some (.ref C) ∧ mg "BadNumber" = some (.ref D) ∧ PySem.W.kitOne K (.ref C) (.ref D) = some false
  k_BadRule_BadFraction : ∃ C D, mg "BadRule" = some (.ref C) ∧ mg "BadFraction" = some (.ref D) ∧ PySem.W.kitOne K (.ref C) (.ref D) = some false
  k_BadRule_BadNumbers : ∃ C D, mg "BadRule" = some (.ref C) ∧ mg "BadNumbers" = some (.ref D) ∧ PySem.W.kitOne K (.ref C) (.ref D) = some false
  k_BadNumbers_BadFormat : ∃ C D, mg "BadNumbers" = some (.ref C) ∧ mg "BadFormat" = some (.ref D) ∧ PySem.W.kitOne K (.ref C) (.ref D) = some false
  k_BadNumbers_BadDyadic : ∃ C D, mg "BadNumbers" = some (.ref C) ∧ mg "BadDyadic" = some (.ref D) ∧ PySem.W.kitOne K (.ref C) (.ref D) = some false
  k_BadNumbers_BadNumber : ∃ C D, mg "BadNumbers" = some (.ref C) ∧ mg "BadNumber" = some (.ref D) ∧ PySem.W.kitOne K (.ref C) (.ref D) = some false
  k_BadNumbers_BadFraction : ∃ C D, mg "BadNumbers" = some (.ref C) ∧ mg "BadFraction" = some (.ref D) ∧ PySem.W.kitOne K (.ref C) (.ref D) = some false
  k_BadNumbers_BadRule : ∃ C D, mg "BadNumbers" = some (.ref C) ∧ mg "BadRule" = some (.ref D) ∧ PySem.W.kitOne K (.ref C) (.ref D) = some false
  m_abs : mg "abs" = none
  m_all : mg "all" = none
  m_bool : mg "bool" = none
  m_int : mg "int" = none
  m_isinstance : mg "isinstance" = none
  m_len : mg "len" = none
  m_list : mg "list" = none
  m_min : mg "min" = none
  m_str : mg "str" = none
  m_tuple : mg "tuple" = none
  d_RULES : ∀ a, mg "RULES" = some (.ref a) → DN K a
  c_MODES : ∃ a, mg "MODES" = some (.ref a) ∧ SqT K (fun _ => none) a [.str "even", .str "away", .str "down", .str "up", .str "zero"]
  c_TINY_WAYS : ∃ a, mg "TINY_WAYS" = some (.ref a) ∧ SqT K (fun _ => none) a [.str "gradual", .str "flush"]
  c_HUGE_WAYS : ∃ a, mg "HUGE_WAYS" = some (.ref a) ∧ SqT K (fun _ => none) a [.str "infinite", .str "largest"]
  c_LEAST_PRECISION : ∃ t, mg "LEAST_PRECISION" = some (.int (4) t)
  c_GREATEST_PRECISION : ∃ t, mg "GREATEST_PRECISION" = some (.int (10) t)
  c_GREATEST_EXPONENT : ∃ t, mg "GREATEST_EXPONENT" = some (.int (40) t)
  c_GREATEST_SPAN : ∃ t, mg "GREATEST_SPAN" = some (.int (20) t)
  c_GREATEST_FACTOR : ∃ t, mg "GREATEST_FACTOR" = some (.int (10000000000000000000000000000000000000000) t)
  c_GREATEST_POWER : ∃ t, mg "GREATEST_POWER" = some (.int (400) t)
  c_RULES : ∃ a, mg "RULES" = some (.ref a) ∧ SqT K (fun _ => none) a [.str "sum sign", .str "zero difference", .str "close difference", .str "error term", .str "fast error", .str "symmetry", .str "midpoint", .str "average", .str "add back", .str "grouping", .str "absorption", .str "third", .str "halves", .str "squares"]
  c_ARITIES : ∃ a, mg "ARITIES" = some (.ref a) ∧ KdI K w a [("sum sign", 2), ("zero difference", 2), ("close difference", 2), ("error term", 2), ("fast error", 2), ("symmetry", 2), ("midpoint", 2), ("average", 2), ("add back", 2), ("grouping", 3), ("absorption", 2), ("third", 1), ("halves", 1), ("squares", 1)]
  c_GREATEST_PART : ∃ t, mg "GREATEST_PART" = some (.int (1000000000000000000000000000000000000000000000000000000000000) t)
section
variable {P : Program} {w : World} {K : PySem.W.Frag} {mg : Str → Option Value} {base : Heap}
/-! ### +ar_of -/
theorem ar_of (T : Txt w K mg) : ∃ a, mg "ARITIES" = some (.ref a) ∧ ∀ r : Rule, KDct K w a r.s (.int (r.ar : Int)) := by
  obtain ⟨a, hm, hq⟩ := T.c_ARITIES
  exact ⟨a, hm, fun r => hq.get (by cases r <;> simp [Rule.s, Rule.ar])⟩
/-! ### is_within -/
def A_is_within : List PyData → PyData → Prop := fun ds d => ∃ (v : PyData) (l g : Int), ds = [v, .int l, .int g] ∧ d = .bool (within v l g)
theorem df_is_within (T : Txt w K mg) : Df P w K mg base "is_within" 1 (spD K A_is_within) := by
  refine df_of T.a_is_within sc_is_within (fun ds d h => ?_) (fun fa cdv A' outer s H E S' ds d hr h => ?_)
  · obtain ⟨v, l, g, rfl, _⟩ := h; rfl
  · obtain ⟨v, l, g, rfl, rfl⟩ := h
    cases v with
    | int i => exact vs_ret (VD.is (vd_and (vd_isi T.m_isinstance T.m_int (by decide +kernel) (vd_var 0) (kit_int _)) fun _ => vd_and (vd_not (vd_isi T.m_isinstance T.m_bool (by decide +kernel) (vd_var 0) (kit_bool _))) fun _ => vd_one (vd_lele (vd_var 1) (vd_var 0) (vd_var 2))) (congrArg PyData.bool (by show (true && (!false && _)) = _; simp [within])))
    | bool b => exact vs_ret (VD.is (vd_and (vd_isi T.m_isinstance T.m_int (by decide +kernel) (vd_var 0) (kit_int _)) fun _ => vd_and (y := true) (vd_not (vd_isi T.m_isinstance T.m_bool (by decide +kernel) (vd_var 0) (kit_bool _))) fun h => by cases h) rfl)
    | none => exact vs_ret (VD.is (vd_and (y := true) (vd_isi T.m_isinstance T.m_int (by decide +kernel) (vd_var 0) (kit_int _)) fun h => by cases h) rfl)
    | str x => exact vs_ret (VD.is (vd_and (y := true) (vd_isi T.m_isinstance T.m_int (by decide +kernel) (vd_var 0) (kit_int _)) fun h => by cases h) rfl)
    | list x => exact vs_ret (VD.is (vd_and (y := true) (vd_isi T.m_isinstance T.m_int (by decide +kernel) (vd_var 0) (kit_int _)) fun h => by cases h) rfl)
    | tuple x => exact vs_ret (VD.is (vd_and (y := true) (vd_isi T.m_isinstance T.m_int (by decide +kernel) (vd_var 0) (kit_int _)) fun h => by cases h) rfl)
    | dict x => exact vs_ret (VD.is (vd_and (y := true) (vd_isi T.m_isinstance T.m_int (by decide +kernel) (vd_var 0) (kit_int _)) fun h => by cases h) rfl)
/-! ### is_format -/
def A_is_format : List PyData → PyData → Prop := fun ds d => ∃ v : PyData, fmtPre v ∧ ds = [v] ∧ d = .bool (fmtB v)
theorem df_is_format (T : Txt w K mg) : Df P w K mg base "is_format" 2 (spD K A_is_format) := by
  refine df_of T.a_is_format sc_is_format (fun ds d h => ?_) (fun fa cdv A' outer s H E S' ds d hr h => ?_)
  · obtain ⟨v, _, rfl, _⟩ := h; rfl
  · obtain ⟨v, hv, rfl, rfl⟩ := h
    have nd := sc_is_format.nd
    obtain ⟨t1, c1⟩ := T.c_LEAST_PRECISION
    obtain ⟨t2, c2⟩ := T.c_GREATEST_PRECISION
    obtain ⟨t3, c3⟩ := T.c_GREATEST_EXPONENT
    obtain ⟨t4, c4⟩ := T.c_GREATEST_SPAN
    obtain ⟨a1, m1, q1⟩ := T.c_MODES
    obtain ⟨a2, m2, q2⟩ := T.c_TINY_WAYS
    obtain ⟨a3, m3, q3⟩ := T.c_HUGE_WAYS
    by_cases ht : ∃ xs, v = .tuple xs ∧ xs.length = 6
    · obtain ⟨xs, rfl, hl⟩ := ht
      obtain ⟨p, low, high, mode, tiny, huge, rfl⟩ : ∃ a b c d e g, xs = [a, b, c, d, e, g] := by
        match xs, hl with
        | [a, b, c, d, e, g], _ => exact ⟨a, b, c, d, e, g, rfl⟩
      obtain ⟨s1, s2, s3⟩ := hv
      refine vs_ifB (VW.vt (vwb_or (vb_not (vb_val (vd_isi T.m_isinstance T.m_tuple (by decide +kernel) (vd_var 0) (kit_tuple _)))) fun _ => vwb_or1 (vb_neI (vd_len T.m_len (vd_var 0) rfl) vd_int))) (fun c => by simp [isTupD] at c) (fun _ => vs_nil ?_)
      refine vs_unp (pn_cons 1 (pn_cons 2 (pn_cons 3 (pn_cons 4 (pn_cons 5 (pn_cons 6 pn_nil nd) nd) nd) nd) nd) nd) (VE.to (vd_var 0) ⟨_, rfl, rfl, ?_⟩)
      refine vs_ifB (vb_not (vb_val (vd_call (df_is_within T) hr (by decide) (vl_cons (vd_var 1) (vl_cons (vd_gint c1) (vl_cons (vd_gint c2) vl_nil))) ⟨p, _, _, rfl, rfl⟩))) (fun c => ?_) (fun c => vs_nil ?_)
      · refine vs_ret (vd_bl.is (congrArg PyData.bool ?_))
        have c' : within p 4 10 = false := by simpa using c
        cases low <;> simp [fmtB, c']
      have w1 : within p 4 10 = true := by simpa using c
      refine vs_ifB (vb_not (vb_val (vd_call (df_is_within T) hr (by decide) (vl_cons (vd_var 2) (vl_cons (vd_neg (vd_gint c3)) (vl_cons (vd_gint c3) vl_nil))) ⟨low, _, _, rfl, rfl⟩))) (fun c => ?_) (fun c => vs_nil ?_)
      · refine vs_ret (vd_bl.is (congrArg PyData.bool ?_))
        have c' : within low (-40) 40 = false := by simpa using c
        cases low <;> simp [fmtB, w1, c']
      have w2 : within low (-40) 40 = true := by simpa using c
      obtain ⟨lo, rfl⟩ : ∃ lo, low = .int lo := by
        cases low <;> first | exact ⟨_, rfl⟩ | (simp [within] at w2)
      refine vs_ifB (vb_not (vb_val (vd_call (df_is_within T) hr (by decide) (vl_cons (vd_var 3) (vl_cons (vd_var 2) (vl_cons (vd_min2 rfl T.m_min (vd_add (vd_var 2) (vd_gint c4)) (vd_gint c3)) vl_nil))) ⟨high, _, _, rfl, rfl⟩))) (fun c => ?_) (fun c => vs_nil ?_)
      · refine vs_ret (vd_bl.is (congrArg PyData.bool ?_))
        have c' : within high lo (min (lo + 20) 40) = false := by simpa using c
        simp [fmtB, w1, w2, c']
      have w3 : within high lo (min (lo + 20) 40) = true := by simpa using c
      refine vs_ret (VD.is (vd_and (vd_inK (ds := [.str ("even" : Str), .str ("away" : Str), .str ("down" : Str), .str ("up" : Str), .str ("zero" : Str)]) (vd_var 4) m1 q1 s1 rfl) fun _ => vd_and (vd_inK (ds := [.str ("gradual" : Str), .str ("flush" : Str)]) (vd_var 5) m2 q2 s2 rfl) fun _ => vd_one (vd_inK (ds := [.str ("infinite" : Str), .str ("largest" : Str)]) (vd_var 6) m3 q3 s3 rfl)) (congrArg PyData.bool ?_))
      simp [fmtB, w1, w2, w3]
    · have hf : fmtB v = false := by
        unfold fmtB
        split
        · exact absurd ⟨_, rfl, rfl⟩ ht
        · rfl
      rw [hf]
      by_cases h2 : isTupD v = true
      · obtain ⟨xs, rfl⟩ : ∃ xs, v = .tuple xs := by cases v <;> first | exact ⟨_, rfl⟩ | cases h2
        have hl : xs.length ≠ 6 := fun z => ht ⟨xs, rfl, z⟩
        refine vs_ifB (VW.vt (vwb_or (vb_not (vb_val (vd_isi T.m_isinstance T.m_tuple (by decide +kernel) (vd_var 0) (kit_tuple _)))) fun _ => vwb_or1 (vb_neI (vd_len T.m_len (vd_var 0) rfl) vd_int))) (fun _ => vs_ret vd_bl) (fun c => ?_)
        have : ¬ ((xs.length : Int) = 6) := by omega
        simp [isTupD, this] at c
      · have h3 : isTupD v = false := by simpa using h2
        refine vs_ifB (VW.vt (vwb_or (y := true) (vb_not (vb_val (vd_isi T.m_isinstance T.m_tuple (by decide +kernel) (vd_var 0) (kit_tuple _)))) fun h => by rw [h3] at h; cases h)) (fun _ => vs_ret vd_bl) (fun c => ?_)
        rw [h3] at c; cases c
/-! ### normal_units -/
def A_normal_units : List PyData → PyData → Prop := fun ds d => ∃ f : Form, f.Ok ∧ ds = [encF f] ∧ d = .int (nrm f)
theorem df_normal_units (T : Txt w K mg) : Df P w K mg base "normal_units" 1 (spD K A_normal_units) := by
  refine df_of T.a_normal_units sc_normal_units (fun ds d h => ?_) (fun f cdv A' outer s H E S' ds d hr h => ?_)
  · obtain ⟨f, ok, rfl, rfl⟩ := h; rfl
  · obtain ⟨f, ok, rfl, rfl⟩ := h
    have h1 := ok.p4
    have h2 := ok.p10
    have e : ((f.p : Int) - 1) = ((f.p - 1 : Nat) : Int) := by omega
    refine vs_ret (VD.is (vd_shl vd_int (vd_sub (vd_ixT (vd_var 0) vd_int rfl) vd_int) ?_) ?_)
    · rw [e]
      exact shl_ok (n := 1) (by decide) (by omega)
    · rw [e, Int.toNat_natCast]; unfold nrm; rw [Int.one_mul]
/-! ### largest_units -/
def A_largest_units : List PyData → PyData → Prop := fun ds d => ∃ f : Form, f.Ok ∧ ds = [encF f] ∧ d = .int (top f)
theorem df_largest_units (T : Txt w K mg) : Df P w K mg base "largest_units" 1 (spD K A_largest_units) := by
  refine df_of T.a_largest_units sc_largest_units (fun ds d h => ?_) (fun f cdv A' outer s H E S' ds d hr h => ?_)
  · obtain ⟨f, ok, rfl, rfl⟩ := h; rfl
  · obtain ⟨f, ok, rfl, rfl⟩ := h
    have h1 := ok.p4
    have h2 := ok.p10
    have h3 := ok.e20
    have nd := sc_largest_units.nd
    refine vs_unp (pn_cons 1 (pn_cons 2 (pn_cons 3 pn_nil nd) nd) nd) ((vd_slT (vd_var 0) vo_none (vo_some vd_int) (by show ¬ (HT.sIx 6 0 none = 0 ∧ HT.sIx 6 6 (some 3) = 6); decide)).to ⟨_, rfl, rfl, ?_⟩)
    have e : f.low + (f.e : Int) - f.low = (f.e : Int) := by omega
    have hp : (2 : Int) ^ f.p ≤ 2 ^ 10 := Int.pow_le_pow_right₀ f.p 10 h2
    have hp0 := two_pow_pos f.p
    refine vs_ret (VD.is (vd_shl (vd_sub (vd_shl vd_int (vd_var 1) (shl_ok (n := 1) (by decide) (by omega))) vd_int) (vd_sub (vd_var 3) (vd_var 2)) ?_) ?_)
    · rw [e, Int.toNat_natCast, Int.one_mul]
      exact shl_ok (n := 20) (by omega) (by omega)
    · rw [e, Int.toNat_natCast, Int.toNat_natCast, Int.one_mul]; rfl
/-! ### are_number -/
def A_are_number : List PyData → PyData → Prop := fun ds d => ∃ (f : Form) (u : Int), f.Ok ∧ u.natAbs < 2 ^ 1200 ∧ ds = [encF f, .int u] ∧ d = .bool (isNum f u)
theorem df_are_number (T : Txt w K mg) : Df P w K mg base "are_number" 2 (spD K A_are_number) := by
  refine df_of T.a_are_number sc_are_number (fun ds d h => ?_) (fun fa cdv A' outer s H E S' ds d hr h => ?_)
  · obtain ⟨f, u, _, _, rfl, _⟩ := h; rfl
  · obtain ⟨f, u, ok, hu, rfl, rfl⟩ := h
    have nd := sc_are_number.nd
    have p4 := ok.p4
    refine vs_asg 2 (VE.to (vd_abs T.m_abs (vd_var 1)) ?_) nd
    refine vs_ifB (vb_lt (vd_var 2) (vd_call (df_normal_units T) hr (by decide) (vl_cons (vd_var 0) vl_nil) ⟨f, ok, rfl, rfl⟩)) (fun c => ?_) (fun c => vs_nil ?_)
    · refine vs_ret (VD.is (vd_or (vd_eqI (vd_var 2) vd_int) fun _ => vd_one (vd_eqS (vd_ixT (vd_var 0) vd_int rfl) vd_str)) (congrArg PyData.bool ?_))
      have c1 : (u.natAbs : Int) < nrm f := of_decide_eq_true c
      rw [nrm_cast] at c1
      unfold isNum numN
      rw [if_pos (by omega), dec_tiny]
      congr 1
      by_cases h : u.natAbs = 0
      · rw [h]; rfl
      · rw [decide_eq_false (by omega)]; exact (beq_eq_false_iff_ne.mpr h).symm
    have c1 : ¬ (u.natAbs : Int) < nrm f := of_decide_eq_false c
    rw [nrm_cast] at c1
    have hn : ¬ u.natAbs < nrmN f := by omega
    refine vs_ifB (vb_gt (vd_var 2) (vd_call (df_largest_units T) hr (by decide) (vl_cons (vd_var 0) vl_nil) ⟨f, ok, rfl, rfl⟩)) (fun c => ?_) (fun c => vs_nil ?_)
    · refine vs_ret (vd_bl.is (congrArg PyData.bool ?_))
      have c2 : top f < (u.natAbs : Int) := of_decide_eq_true c
      rw [top_cast] at c2
      unfold isNum numN
      rw [if_neg hn, decide_eq_false (by omega), Bool.false_and]
    · have c2 : ¬ top f < (u.natAbs : Int) := of_decide_eq_false c
      rw [top_cast] at c2
      have hlo : 2 ^ (f.p - 1) ≤ u.natAbs := by unfold nrmN at hn; omega
      have hb := le_bln hlo
      have hb2 := bln_le_of hu
      have es : ((Builtin.Int.intBits (u.natAbs : Int) : Nat) : Int) - (f.p : Int) = ((bln u.natAbs - f.p : Nat) : Int) := by
        rw [bits_bln]; show ((bln u.natAbs : Nat) : Int) - f.p = _; omega
      refine vs_asg 3 (VE.to (vd_shl vd_int (vd_sub (vd_bits (vd_var 2)) (vd_ixT (vd_var 0) vd_int rfl)) ?_) ?_) nd
      · rw [es]; exact shl_ok (n := 1) (by decide) (by omega)
      · rw [es, Int.one_mul, Int.toNat_natCast]
        refine vs_ret (VD.is (vd_eqI (vd_mod (vd_var 2) (vd_var 3) (two_pow_pos _)) vd_int) (congrArg PyData.bool ?_))
        unfold isNum numN
        rw [if_neg hn, decide_eq_true (show u.natAbs ≤ topN f by omega), Bool.true_and]
        have e : (u.natAbs : Int) % 2 ^ (bln u.natAbs - f.p) = ((u.natAbs % 2 ^ (bln u.natAbs - f.p) : Nat) : Int) := by simp
        rw [e]
        by_cases h : u.natAbs % 2 ^ (bln u.natAbs - f.p) = 0
        · rw [h]; rfl
        · rw [decide_eq_false (by omega)]; exact (beq_eq_false_iff_ne.mpr h).symm
/-! ### to_units -/
def A_to_units : List PyData → PyData → Prop := fun ds d => ∃ (f : Form) (n k : Int), f.Ok ∧ ds = [encF f, .tuple [.int n, .int k]] ∧ (n = 0 ∨ (f.low ≤ k ∧ k ≤ 500 ∧ n.natAbs < 2 ^ 200)) ∧ d = .int (n * 2 ^ (k - f.low).toNat)
theorem df_to_units (T : Txt w K mg) : Df P w K mg base "to_units" 1 (spD K A_to_units) := by
  refine df_of T.a_to_units sc_to_units (fun ds d h => ?_) (fun f cdv A' outer s H E S' ds d hr h => ?_)
  · obtain ⟨f, n, k, ok, rfl, _, rfl⟩ := h; rfl
  · obtain ⟨f, n, k, ok, rfl, h1, rfl⟩ := h
    refine vs_unp (pn_cons 2 (pn_cons 3 pn_nil sc_to_units.nd) sc_to_units.nd) ((vd_var 1).to ⟨_, rfl, rfl, ?_⟩)
    refine vs_ifB (vb_eqI (vd_var 2) vd_int) (fun c => ?_) (fun c => ?_)
    · refine vs_ret (vd_int.is ?_)
      rw [of_decide_eq_true c, Int.zero_mul]
    · refine vs_nil ?_
      have hn : n ≠ 0 := of_decide_eq_false c
      refine vs_ret (vd_shl (vd_var 2) (vd_sub (vd_var 3) (vd_ixT (vd_var 0) vd_int rfl)) ?_)
      rcases h1 with h1 | ⟨h1, h2, h3⟩
      · exact absurd h1 hn
      · have hlo := ok.lo
        have e : (k - f.low) = ((k - f.low).toNat : Int) := by omega
        rw [e]
        exact shl_ok h3 (by omega)
/-! ### _stands_for_number -/
def A_stands : List PyData → PyData → Prop := fun ds d => ∃ (f : Form) (v : PyData), f.Ok ∧ dyB v = true ∧ ds = [encF f, v] ∧ d = .bool (stB f v)
theorem df__stands_for_number (T : Txt w K mg) : Df P w K mg base "_stands_for_number" 3 (spD K A_stands) := by
  refine df_of T.a__stands_for_number sc__stands_for_number (fun ds d h => ?_) (fun fa cdv A' outer s H E S' ds d hr h => ?_)
  · obtain ⟨f, v, _, _, rfl, _⟩ := h; rfl
  · obtain ⟨f, v, ok, hd, rfl, rfl⟩ := h
    have nd := sc__stands_for_number.nd
    obtain ⟨n, k, rfl, hn, k1, k2⟩ := dyB_inv hd
    have lo := ok.lo
    have hn2 : n.natAbs < 2 ^ 140 := Nat.lt_of_le_of_lt hn (by decide)
    refine vs_unp (pn_cons 2 (pn_cons 3 pn_nil nd) nd) (VE.to (vd_var 1) ⟨_, rfl, rfl, ?_⟩)
    refine vs_ifB (vb_eqI (vd_var 2) vd_int) (fun c => ?_) (fun c => vs_nil ?_)
    · refine vs_ret (vd_bl.is (congrArg PyData.bool ?_))
      show true = (decide (n = 0) || _)
      rw [c, Bool.true_or]
    · refine vs_ret (VD.is (vd_and (vd_ge (vd_var 3) (vd_ixT (vd_var 0) vd_int rfl)) fun c2 => vd_one (vd_call (df_are_number T) hr (by decide) (vl_cons (vd_var 0) (vl_cons (vd_call (df_to_units T) hr (by decide) (vl_cons (vd_var 0) (vl_cons (vd_var 1) vl_nil)) ⟨f, n, k, ok, rfl, .inr ⟨of_decide_eq_true c2, by omega, pow_mono hn2 (by decide)⟩, rfl⟩) vl_nil)) ⟨f, _, ok, ?_, rfl, rfl⟩)) (congrArg PyData.bool ?_))
      · rw [Int.natAbs_mul, Int.natAbs_pow]
        have h1 : n.natAbs * 2 ^ (k - f.low).toNat < 2 ^ 140 * 2 ^ 500 := Nat.lt_of_lt_of_le (Nat.mul_lt_mul_of_pos_right hn2 (Nat.two_pow_pos _)) (Nat.mul_le_mul_left _ (Nat.pow_le_pow_right (by decide) (by omega)))
        rw [← Nat.pow_add] at h1
        exact pow_mono h1 (by decide)
      · show _ = (decide (n = 0) || _)
        rw [c, Bool.false_or]
/-! ### is_dyadic -/
def A_is_dyadic : List PyData → PyData → Prop := fun ds d => ∃ v : PyData, ds = [v] ∧ d = .bool (dyB v)
theorem df_is_dyadic (T : Txt w K mg) : Df P w K mg base "is_dyadic" 2 (spD K A_is_dyadic) := by
  refine df_of T.a_is_dyadic sc_is_dyadic (fun ds d h => ?_) (fun fa cdv A' outer s H E S' ds d hr h => ?_)
  · obtain ⟨v, rfl, _⟩ := h; rfl
  · obtain ⟨v, rfl, rfl⟩ := h
    have nd := sc_is_dyadic.nd
    obtain ⟨t1, c1⟩ := T.c_GREATEST_FACTOR
    obtain ⟨t2, c2⟩ := T.c_GREATEST_POWER
    by_cases ht : ∃ xs, v = .tuple xs ∧ xs.length = 2
    · obtain ⟨xs, rfl, hl⟩ := ht
      obtain ⟨n, k, rfl⟩ : ∃ a b, xs = [a, b] := by
        match xs, hl with
        | [a, b], _ => exact ⟨a, b, rfl⟩
      refine vs_ifB (VW.vt (vwb_or (vb_not (vb_val (vd_isi T.m_isinstance T.m_tuple (by decide +kernel) (vd_var 0) (kit_tuple _)))) fun _ => vwb_or1 (vb_neI (vd_len T.m_len (vd_var 0) rfl) vd_int))) (fun c => by simp [isTupD] at c) (fun _ => vs_nil ?_)
      refine vs_unp (pn_cons 1 (pn_cons 2 pn_nil nd) nd) (VE.to (vd_var 0) ⟨_, rfl, rfl, ?_⟩)
      have big : ((10 : Int) ^ 40) = 10000000000000000000000000000000000000000 := by decide
      refine vs_ifB (vb_not (vb_val (vd_call (df_is_within T) hr (by decide) (vl_cons (vd_var 1) (vl_cons (vd_neg (vd_gint c1)) (vl_cons (vd_gint c1) vl_nil))) ⟨n, _, _, rfl, rfl⟩))) (fun c => ?_) (fun c => vs_nil ?_)
      · refine vs_ret (vd_bl.is (congrArg PyData.bool ?_))
        have c' : within n (-(10 ^ 40)) (10 ^ 40) = false := by rw [big]; simpa using c
        cases n <;> simp only [dyB, c', Bool.false_and]
      have w1 : within n (-(10 ^ 40)) (10 ^ 40) = true := by rw [big]; simpa using c
      obtain ⟨n, rfl⟩ : ∃ m, n = .int m := by
        cases n <;> first | exact ⟨_, rfl⟩ | (simp [within] at w1)
      refine vs_ifB (vb_not (vb_val (vd_call (df_is_within T) hr (by decide) (vl_cons (vd_var 2) (vl_cons (vd_neg (vd_gint c2)) (vl_cons (vd_gint c2) vl_nil))) ⟨k, _, _, rfl, rfl⟩))) (fun c => ?_) (fun c => vs_nil ?_)
      · refine vs_ret (vd_bl.is (congrArg PyData.bool ?_))
        have c' : within k (-400) 400 = false := by simpa using c
        simp only [dyB, w1, c', Bool.false_and, Bool.true_and]
      have w2 : within k (-400) 400 = true := by simpa using c
      obtain ⟨k, rfl⟩ : ∃ m, k = .int m := by
        cases k <;> first | exact ⟨_, rfl⟩ | (simp [within] at w2)
      refine vs_ret (VD.is (vd_or (vd_eqI (vd_mod (vd_var 1) vd_int (by decide)) vd_int) fun _ => vd_one (vd_and (vd_eqI (vd_var 1) vd_int) fun _ => vd_one (vd_eqI (vd_var 2) vd_int))) (congrArg PyData.bool ?_))
      simp only [dyB, w1, w2, Bool.true_and]
    · have hf : dyB v = false := by
        unfold dyB
        split
        · exact absurd ⟨_, rfl, rfl⟩ ht
        · rfl
      rw [hf]
      by_cases h2 : isTupD v = true
      · obtain ⟨xs, rfl⟩ : ∃ xs, v = .tuple xs := by cases v <;> first | exact ⟨_, rfl⟩ | cases h2
        have hl : xs.length ≠ 2 := fun z => ht ⟨xs, rfl, z⟩
        refine vs_ifB (VW.vt (vwb_or (vb_not (vb_val (vd_isi T.m_isinstance T.m_tuple (by decide +kernel) (vd_var 0) (kit_tuple _)))) fun _ => vwb_or1 (vb_neI (vd_len T.m_len (vd_var 0) rfl) vd_int))) (fun _ => vs_ret vd_bl) (fun c => ?_)
        have : ¬ ((xs.length : Int) = 2) := by omega
        simp [isTupD, this] at c
      · have h3 : isTupD v = false := by simpa using h2
        refine vs_ifB (VW.vt (vwb_or (y := true) (vb_not (vb_val (vd_isi T.m_isinstance T.m_tuple (by decide +kernel) (vd_var 0) (kit_tuple _)))) fun h => by rw [h3] at h; cases h)) (fun _ => vs_ret vd_bl) (fun c => ?_)
        rw [h3] at c; cases c
/-! ### has_number -/
def A_has : List PyData → PyData → Prop := fun ds d => ∃ (f : Form) (v : PyData), f.Ok ∧ ds = [encF f, v] ∧ d = .bool (hasB f v)
theorem df_has_number (T : Txt w K mg) : Df P w K mg base "has_number" 4 (spD K A_has) := by
  have D := df__stands_for_number (P := P) (w := w) (base := base) T
  refine df_of T.a_has_number sc_has_number (fun ds d h => ?_) (fun fa cdv A' outer s H E S' ds d hr h => ?_)
  · obtain ⟨f, v, _, rfl, _⟩ := h; rfl
  · obtain ⟨f, v, ok, rfl, rfl⟩ := h
    exact vs_ret (vd_and (vd_call (df_is_dyadic T) hr (by decide) (vl_cons (vd_var 1) vl_nil) ⟨v, rfl, rfl⟩) fun c => vd_one (vd_call D hr (by decide) (vl_cons (vd_var 0) (vl_cons (vd_var 1) vl_nil)) ⟨f, v, ok, c, rfl, rfl⟩))
/-! ### require_format -/
def A_req_f : List PyData → PyData → Prop := fun ds d => ∃ f : Form, f.Ok ∧ ds = [encF f] ∧ d = .none
theorem df_require_format (T : Txt w K mg) : Df P w K mg base "require_format" 3 (spD K A_req_f) := by
  refine df_of T.a_require_format sc_require_format (fun ds d h => ?_) (fun fa cdv A' outer s H E S' ds d hr h => ?_)
  · obtain ⟨f, _, rfl, _⟩ := h; rfl
  · obtain ⟨f, ok, rfl, rfl⟩ := h
    obtain ⟨h1, h2⟩ := fmtB_enc ok
    refine vs_ifB (vb_not (vb_val (vd_call (df_is_format T) hr (by decide) (vl_cons (vd_var 0) vl_nil) ⟨_, h2, rfl, rfl⟩))) (fun c => ?_) (fun c => vs_nil (vs_nil rfl))
    rw [h1] at c; cases c
/-! ### require_number -/
def A_req_n : List PyData → PyData → Prop := fun ds d => ∃ (f : Form) (v : PyData), f.Ok ∧ hasB f v = true ∧ ds = [encF f, v] ∧ d = .none
theorem df_require_number (T : Txt w K mg) : Df P w K mg base "require_number" 5 (spD K A_req_n) := by
  have D := df_has_number (P := P) (w := w) (base := base) T
  refine df_of T.a_require_number sc_require_number (fun ds d h => ?_) (fun fa cdv A' outer s H E S' ds d hr h => ?_)
  · obtain ⟨f, v, _, _, rfl, _⟩ := h; rfl
  · obtain ⟨f, v, ok, hv, rfl, rfl⟩ := h
    refine vs_ifB (vb_not (vb_val (vd_call D hr (by decide) (vl_cons (vd_var 0) (vl_cons (vd_var 1) vl_nil)) ⟨f, v, ok, rfl, rfl⟩))) (fun c => ?_) (fun c => vs_nil (vs_nil rfl))
    rw [hv] at c; cases c
/-! ### require_rule -/
def A_req_r : List PyData → PyData → Prop := fun ds d => ∃ r : Rule, ds = [.str r.s] ∧ d = .none
theorem df_require_rule (T : Txt w K mg) : Df P w K mg base "require_rule" 1 (spD K A_req_r) := by
  obtain ⟨t, hm, hq⟩ := T.c_RULES
  refine df_of T.a_require_rule sc_require_rule (fun ds d h => ?_) (fun fa cdv A' outer s H E S' ds d hr h => ?_)
  · obtain ⟨r, rfl, _⟩ := h; rfl
  · obtain ⟨r, rfl, rfl⟩ := h
    refine vs_ifB (vb_inK true (ds := Rule.all.map fun r => .str r.s) (vd_var 0) hm hq rfl rfl) (fun c => ?_) (fun c => vs_nil (vs_nil rfl))
    have : inF (.str r.s) (Rule.all.map fun r => .str r.s) = true := by cases r <;> decide +kernel
    rw [this] at c
    cases c
/-! ### +errs_all -/
/-- a test that raises -/
theorem vx_ifX {F : Fm} {X : Cx} {δ : DE} {c : Expr} {body orelse rest : List Stmt} {pos : Pos} {p : Hp → Prop} (hc : VEX F X c δ p) (he : ∀ whole, isTrue c X.env whole = (do let v ← whole; standAt c.pos; holding [v] (truthy v)) := by intro _; rfl) : VX F X (.If c body orelse pos :: rest) δ p := fun σ H D o s q =>
  (pss_cons (ps_if (pt_val (pe_sem X c) he) (pss_sem X body) (pss_sem X orelse)) (pss_sem X rest)).sem (hc σ H _ o s q)
theorem dff_require_format (T : Txt w K mg) {C : Addr} (hX : ExcAt K mg "BadFormat" C) : Df P w K mg base "require_format" 3 (spX K C fun ds => ∃ v : PyData, fmtPre v ∧ fmtB v = false ∧ ds = [v]) := by
  have D := df_is_format (P := P) (w := w) (base := base) T
  refine dfx_of T.a_require_format sc_require_format (fun ds h => ?_) (fun fa cdv A' outer s H E S' ds hr h => ?_)
  · obtain ⟨v, _, _, rfl⟩ := h; rfl
  · obtain ⟨v, h1, h2, rfl⟩ := h
    refine vx_if (t := true) (VB.is (vb_not (vb_val (vd_call D hr (by decide) (vl_cons (vd_var 0) vl_nil) ⟨v, h1, rfl, rfl⟩))) (by rw [h2]; rfl)) (fun _ => ?_) (fun c => by cases c)
    exact vx_own hX (takes_of rfl rfl rfl rfl) (fun H' h => h)
theorem dff_is_number (T : Txt w K mg) {C : Addr} (hX : ExcAt K mg "BadFormat" C) : Df P w K mg base "is_number" 5 (spX K C fun ds => ∃ v x1 : PyData, fmtPre v ∧ fmtB v = false ∧ ds = [v, x1]) := by
  have D := dff_require_format (P := P) (w := w) (base := base) T hX
  refine dfx_of T.a_is_number sc_is_number (fun ds h => ?_) (fun fa cdv A' outer s H E S' ds hr h => ?_)
  · obtain ⟨_, _, _, _, rfl⟩ := h; rfl
  · obtain ⟨v, x1, h1, h2, rfl⟩ := h
    exact vx_exX (vex_call D hr (by decide) (takes_of rfl rfl rfl rfl) (VA.to (vl_cons (vd_var 0) vl_nil) ⟨v, h1, h2, rfl⟩) (fun H' h => h))
theorem dff_largest (T : Txt w K mg) {C : Addr} (hX : ExcAt K mg "BadFormat" C) : Df P w K mg base "largest" 4 (spX K C fun ds => ∃ v : PyData, fmtPre v ∧ fmtB v = false ∧ ds = [v]) := by
  have D := dff_require_format (P := P) (w := w) (base := base) T hX
  refine dfx_of T.a_largest sc_largest (fun ds h => ?_) (fun fa cdv A' outer s H E S' ds hr h => ?_)
  · obtain ⟨_, _, _, rfl⟩ := h; rfl
  · obtain ⟨v, h1, h2, rfl⟩ := h
    exact vx_exX (vex_call D hr (by decide) (takes_of rfl rfl rfl rfl) (VA.to (vl_cons (vd_var 0) vl_nil) ⟨v, h1, h2, rfl⟩) (fun H' h => h))
theorem dff_smallest (T : Txt w K mg) {C : Addr} (hX : ExcAt K mg "BadFormat" C) : Df P w K mg base "smallest" 4 (spX K C fun ds => ∃ v : PyData, fmtPre v ∧ fmtB v = false ∧ ds = [v]) := by
  have D := dff_require_format (P := P) (w := w) (base := base) T hX
  refine dfx_of T.a_smallest sc_smallest (fun ds h => ?_) (fun fa cdv A' outer s H E S' ds hr h => ?_)
  · obtain ⟨_, _, _, rfl⟩ := h; rfl
  · obtain ⟨v, h1, h2, rfl⟩ := h
    exact vx_exX (vex_call D hr (by decide) (takes_of rfl rfl rfl rfl) (VA.to (vl_cons (vd_var 0) vl_nil) ⟨v, h1, h2, rfl⟩) (fun H' h => h))
theorem dff_smallest_normal (T : Txt w K mg) {C : Addr} (hX : ExcAt K mg "BadFormat" C) : Df P w K mg base "smallest_normal" 4 (spX K C fun ds => ∃ v : PyData, fmtPre v ∧ fmtB v = false ∧ ds = [v]) := by
  have D := dff_require_format (P := P) (w := w) (base := base) T hX
  refine dfx_of T.a_smallest_normal sc_smallest_normal (fun ds h => ?_) (fun fa cdv A' outer s H E S' ds hr h => ?_)
  · obtain ⟨_, _, _, rfl⟩ := h; rfl
  · obtain ⟨v, h1, h2, rfl⟩ := h
    exact vx_exX (vex_call D hr (by decide) (takes_of rfl rfl rfl rfl) (VA.to (vl_cons (vd_var 0) vl_nil) ⟨v, h1, h2, rfl⟩) (fun H' h => h))
theorem dff_count_numbers (T : Txt w K mg) {C : Addr} (hX : ExcAt K mg "BadFormat" C) : Df P w K mg base "count_numbers" 4 (spX K C fun ds => ∃ v : PyData, fmtPre v ∧ fmtB v = false ∧ ds = [v]) := by
  have D := dff_require_format (P := P) (w := w) (base := base) T hX
  refine dfx_of T.a_count_numbers sc_count_numbers (fun ds h => ?_) (fun fa cdv A' outer s H E S' ds hr h => ?_)
  · obtain ⟨_, _, _, rfl⟩ := h; rfl
  · obtain ⟨v, h1, h2, rfl⟩ := h
    exact vx_exX (vex_call D hr (by decide) (takes_of rfl rfl rfl rfl) (VA.to (vl_cons (vd_var 0) vl_nil) ⟨v, h1, h2, rfl⟩) (fun H' h => h))
theorem dff_next_up (T : Txt w K mg) {C : Addr} (hX : ExcAt K mg "BadFormat" C) : Df P w K mg base "next_up" 7 (spX K C fun ds => ∃ v x1 : PyData, fmtPre v ∧ fmtB v = false ∧ ds = [v, x1]) := by
  have D := dff_require_format (P := P) (w := w) (base := base) T hX
  refine dfx_of T.a_next_up sc_next_up (fun ds h => ?_) (fun fa cdv A' outer s H E S' ds hr h => ?_)
  · obtain ⟨_, _, _, _, rfl⟩ := h; rfl
  · obtain ⟨v, x1, h1, h2, rfl⟩ := h
    exact vx_exX (vex_call D hr (by decide) (takes_of rfl rfl rfl rfl) (VA.to (vl_cons (vd_var 0) vl_nil) ⟨v, h1, h2, rfl⟩) (fun H' h => h))
theorem dff_round_to (T : Txt w K mg) {C : Addr} (hX : ExcAt K mg "BadFormat" C) : Df P w K mg base "round_to" 6 (spX K C fun ds => ∃ v x1 x2 : PyData, fmtPre v ∧ fmtB v = false ∧ ds = [v, x1, x2]) := by
  have D := dff_require_format (P := P) (w := w) (base := base) T hX
  refine dfx_of T.a_round_to sc_round_to (fun ds h => ?_) (fun fa cdv A' outer s H E S' ds hr h => ?_)
  · obtain ⟨_, _, _, _, _, rfl⟩ := h; rfl
  · obtain ⟨v, x1, x2, h1, h2, rfl⟩ := h
    exact vx_exX (vex_call D hr (by decide) (takes_of rfl rfl rfl rfl) (VA.to (vl_cons (vd_var 0) vl_nil) ⟨v, h1, h2, rfl⟩) (fun H' h => h))
theorem dff__require_operands (T : Txt w K mg) {C : Addr} (hX : ExcAt K mg "BadFormat" C) : Df P w K mg base "_require_operands" 6 (spX K C fun ds => ∃ v x1 x2 : PyData, fmtPre v ∧ fmtB v = false ∧ ds = [v, x1, x2]) := by
  have D := dff_require_format (P := P) (w := w) (base := base) T hX
  refine dfx_of T.a__require_operands sc__require_operands (fun ds h => ?_) (fun fa cdv A' outer s H E S' ds hr h => ?_)
  · obtain ⟨_, _, _, _, _, rfl⟩ := h; rfl
  · obtain ⟨v, x1, x2, h1, h2, rfl⟩ := h
    exact vx_exX (vex_call D hr (by decide) (takes_of rfl rfl rfl rfl) (VA.to (vl_cons (vd_var 0) vl_nil) ⟨v, h1, h2, rfl⟩) (fun H' h => h))
theorem dff_add (T : Txt w K mg) {C : Addr} (hX : ExcAt K mg "BadFormat" C) : Df P w K mg base "add" 7 (spX K C fun ds => ∃ v x1 x2 : PyData, fmtPre v ∧ fmtB v = false ∧ ds = [v, x1, x2]) := by
  have D := dff__require_operands (P := P) (w := w) (base := base) T hX
  refine dfx_of T.a_add sc_add (fun ds h => ?_) (fun fa cdv A' outer s H E S' ds hr h => ?_)
  · obtain ⟨_, _, _, _, _, rfl⟩ := h; rfl
  · obtain ⟨v, x1, x2, h1, h2, rfl⟩ := h
    exact vx_exX (vex_call D hr (by decide) (takes_of rfl rfl rfl rfl) (VA.to (vl_cons (vd_var 0) (vl_cons (vd_var 1) (vl_cons (vd_var 2) vl_nil))) ⟨v, x1, x2, h1, h2, rfl⟩) (fun H' h => h))
theorem dff_subtract (T : Txt w K mg) {C : Addr} (hX : ExcAt K mg "BadFormat" C) : Df P w K mg base "subtract" 7 (spX K C fun ds => ∃ v x1 x2 : PyData, fmtPre v ∧ fmtB v = false ∧ ds = [v, x1, x2]) := by
  have D := dff__require_operands (P := P) (w := w) (base := base) T hX
  refine dfx_of T.a_subtract sc_subtract (fun ds h => ?_) (fun fa cdv A' outer s H E S' ds hr h => ?_)
  · obtain ⟨_, _, _, _, _, rfl⟩ := h; rfl
  · obtain ⟨v, x1, x2, h1, h2, rfl⟩ := h
    exact vx_exX (vex_call D hr (by decide) (takes_of rfl rfl rfl rfl) (VA.to (vl_cons (vd_var 0) (vl_cons (vd_var 1) (vl_cons (vd_var 2) vl_nil))) ⟨v, x1, x2, h1, h2, rfl⟩) (fun H' h => h))
theorem dff_multiply (T : Txt w K mg) {C : Addr} (hX : ExcAt K mg "BadFormat" C) : Df P w K mg base "multiply" 7 (spX K C fun ds => ∃ v x1 x2 : PyData, fmtPre v ∧ fmtB v = false ∧ ds = [v, x1, x2]) := by
  have D := dff__require_operands (P := P) (w := w) (base := base) T hX
  refine dfx_of T.a_multiply sc_multiply (fun ds h => ?_) (fun fa cdv A' outer s H E S' ds hr h => ?_)
  · obtain ⟨_, _, _, _, _, rfl⟩ := h; rfl
  · obtain ⟨v, x1, x2, h1, h2, rfl⟩ := h
    exact vx_exX (vex_call D hr (by decide) (takes_of rfl rfl rfl rfl) (VA.to (vl_cons (vd_var 0) (vl_cons (vd_var 1) (vl_cons (vd_var 2) vl_nil))) ⟨v, x1, x2, h1, h2, rfl⟩) (fun H' h => h))
theorem dff_divide (T : Txt w K mg) {C : Addr} (hX : ExcAt K mg "BadFormat" C) : Df P w K mg base "divide" 7 (spX K C fun ds => ∃ v x1 x2 : PyData, fmtPre v ∧ fmtB v = false ∧ ds = [v, x1, x2]) := by
  have D := dff__require_operands (P := P) (w := w) (base := base) T hX
  refine dfx_of T.a_divide sc_divide (fun ds h => ?_) (fun fa cdv A' outer s H E S' ds hr h => ?_)
  · obtain ⟨_, _, _, _, _, rfl⟩ := h; rfl
  · obtain ⟨v, x1, x2, h1, h2, rfl⟩ := h
    exact vx_exX (vex_call D hr (by decide) (takes_of rfl rfl rfl rfl) (VA.to (vl_cons (vd_var 0) (vl_cons (vd_var 1) (vl_cons (vd_var 2) vl_nil))) ⟨v, x1, x2, h1, h2, rfl⟩) (fun H' h => h))
theorem dff_square_root (T : Txt w K mg) {C : Addr} (hX : ExcAt K mg "BadFormat" C) : Df P w K mg base "square_root" 6 (spX K C fun ds => ∃ v x1 : PyData, fmtPre v ∧ fmtB v = false ∧ ds = [v, x1]) := by
  have D := dff_require_format (P := P) (w := w) (base := base) T hX
  refine dfx_of T.a_square_root sc_square_root (fun ds h => ?_) (fun fa cdv A' outer s H E S' ds hr h => ?_)
  · obtain ⟨_, _, _, _, rfl⟩ := h; rfl
  · obtain ⟨v, x1, h1, h2, rfl⟩ := h
    exact vx_exX (vex_call D hr (by decide) (takes_of rfl rfl rfl rfl) (VA.to (vl_cons (vd_var 0) vl_nil) ⟨v, h1, h2, rfl⟩) (fun H' h => h))
theorem dff_holds_for (T : Txt w K mg) {C : Addr} (hX : ExcAt K mg "BadFormat" C) : Df P w K mg base "holds_for" 7 (spX K C fun ds => ∃ v x1 x2 : PyData, fmtPre v ∧ fmtB v = false ∧ ds = [v, x1, x2]) := by
  have D := dff_require_format (P := P) (w := w) (base := base) T hX
  refine dfx_of T.a_holds_for sc_holds_for (fun ds h => ?_) (fun fa cdv A' outer s H E S' ds hr h => ?_)
  · obtain ⟨_, _, _, _, _, rfl⟩ := h; rfl
  · obtain ⟨v, x1, x2, h1, h2, rfl⟩ := h
    exact vx_exX (vex_call D hr (by decide) (takes_of rfl rfl rfl rfl) (VA.to (vl_cons (vd_var 0) vl_nil) ⟨v, h1, h2, rfl⟩) (fun H' h => h))
theorem dff_holds (T : Txt w K mg) {C : Addr} (hX : ExcAt K mg "BadFormat" C) : Df P w K mg base "holds" 4 (spX K C fun ds => ∃ v x1 : PyData, fmtPre v ∧ fmtB v = false ∧ ds = [v, x1]) := by
  have D := dff_require_format (P := P) (w := w) (base := base) T hX
  refine dfx_of T.a_holds sc_holds (fun ds h => ?_) (fun fa cdv A' outer s H E S' ds hr h => ?_)
  · obtain ⟨_, _, _, _, rfl⟩ := h; rfl
  · obtain ⟨v, x1, h1, h2, rfl⟩ := h
    exact vx_exX (vex_call D hr (by decide) (takes_of rfl rfl rfl rfl) (VA.to (vl_cons (vd_var 0) vl_nil) ⟨v, h1, h2, rfl⟩) (fun H' h => h))
theorem dff_profile (T : Txt w K mg) {C : Addr} (hX : ExcAt K mg "BadFormat" C) : Df P w K mg base "profile" 5 (spX K C fun ds => ∃ v : PyData, fmtPre v ∧ fmtB v = false ∧ ds = [v]) := by
  have D := dff_require_format (P := P) (w := w) (base := base) T hX
  refine dfx_of T.a_profile sc_profile (fun ds h => ?_) (fun fa cdv A' outer s H E S' ds hr h => ?_)
  · obtain ⟨_, _, _, rfl⟩ := h; rfl
  · obtain ⟨v, h1, h2, rfl⟩ := h
    exact vx_exX (vex_call D hr (by decide) (takes_of rfl rfl rfl rfl) (VA.to (vl_cons (vd_var 0) vl_nil) ⟨v, h1, h2, rfl⟩) (fun H' h => h))
theorem dff_counterexample (T : Txt w K mg) {C : Addr} (hX : ExcAt K mg "BadFormat" C) : Df P w K mg base "counterexample" 5 (spX K C fun ds => ∃ v x1 : PyData, fmtPre v ∧ fmtB v = false ∧ ds = [v, x1]) := by
  have D := dff_holds (P := P) (w := w) (base := base) T hX
  refine dfx_of T.a_counterexample sc_counterexample (fun ds h => ?_) (fun fa cdv A' outer s H E S' ds hr h => ?_)
  · obtain ⟨_, _, _, _, rfl⟩ := h; rfl
  · obtain ⟨v, x1, h1, h2, rfl⟩ := h
    exact vx_ifX (vex_call D hr (by decide) (takes_of rfl rfl rfl rfl) (VA.to (vl_cons (vd_var 0) (vl_cons (vd_var 1) vl_nil)) ⟨v, x1, h1, h2, rfl⟩) (fun H' h => h))
-- a value that is no number
theorem dfn_require_number (T : Txt w K mg) {C : Addr} (hX : ExcAt K mg "BadNumber" C) : Df P w K mg base "require_number" 5 (spX K C fun ds => ∃ (f : Form) (v : PyData), f.Ok ∧ hasB f v = false ∧ ds = [encF f, v]) := by
  have D := df_has_number (P := P) (w := w) (base := base) T
  refine dfx_of T.a_require_number sc_require_number (fun ds h => ?_) (fun fa cdv A' outer s H E S' ds hr h => ?_)
  · obtain ⟨f, v, _, _, rfl⟩ := h; rfl
  · obtain ⟨f, v, ok, hv, rfl⟩ := h
    refine vx_if (t := true) (VB.is (vb_not (vb_val (vd_call D hr (by decide) (vl_cons (vd_var 0) (vl_cons (vd_var 1) vl_nil)) ⟨f, v, ok, rfl, rfl⟩))) (by rw [hv]; rfl)) (fun _ => ?_) (fun c => by cases c)
    exact vx_own hX (takes_of rfl rfl rfl rfl) (fun H' h => h)
theorem dfn__require_operands (T : Txt w K mg) {C : Addr} (hX : ExcAt K mg "BadNumber" C) : Df P w K mg base "_require_operands" 6 (spX K C fun ds => ∃ (f : Form) (v v2 : PyData), f.Ok ∧ (hasB f v = false ∨ (hasB f v = true ∧ hasB f v2 = false)) ∧ ds = [encF f, v, v2]) := by
  have D := df_require_format (P := P) (w := w) (base := base) T
  have D1 := df_require_number (P := P) (w := w) (base := base) T
  have DX := dfn_require_number (P := P) (w := w) (base := base) T hX
  refine dfx_of T.a__require_operands sc__require_operands (fun ds h => ?_) (fun fa cdv A' outer s H E S' ds hr h => ?_)
  · obtain ⟨f, v, v2, _, _, rfl⟩ := h; rfl
  · obtain ⟨f, v, v2, ok, hv, rfl⟩ := h
    refine vx_expr (VE.to (vd_call D hr (by decide) (vl_cons (vd_var 0) vl_nil) ⟨f, ok, rfl, rfl⟩) ?_)
    rcases hv with hv | ⟨hv, hv2⟩
    · exact vx_exX (vex_call DX hr (by decide) (takes_of rfl rfl rfl rfl) (VA.to (vl_cons (vd_var 0) (vl_cons (vd_var 1) vl_nil)) ⟨f, v, ok, hv, rfl⟩) (fun H' h => h))
    · refine vx_expr (VE.to (vd_call D1 hr (by decide) (vl_cons (vd_var 0) (vl_cons (vd_var 1) vl_nil)) ⟨f, v, ok, hv, rfl, rfl⟩) ?_)
      exact vx_exX (vex_call DX hr (by decide) (takes_of rfl rfl rfl rfl) (VA.to (vl_cons (vd_var 0) (vl_cons (vd_var 2) vl_nil)) ⟨f, v2, ok, hv2, rfl⟩) (fun H' h => h))
theorem dfn_add (T : Txt w K mg) {C : Addr} (hX : ExcAt K mg "BadNumber" C) : Df P w K mg base "add" 7 (spX K C fun ds => ∃ (f : Form) (v v2 : PyData), f.Ok ∧ (hasB f v = false ∨ (hasB f v = true ∧ hasB f v2 = false)) ∧ ds = [encF f, v, v2]) := by
  have DX := dfn__require_operands (P := P) (w := w) (base := base) T hX
  refine dfx_of T.a_add sc_add (fun ds h => ?_) (fun fa cdv A' outer s H E S' ds hr h => ?_)
  · obtain ⟨f, v, v2, _, _, rfl⟩ := h; rfl
  · obtain ⟨f, v, v2, ok, hv, rfl⟩ := h
    exact vx_exX (vex_call DX hr (by decide) (takes_of rfl rfl rfl rfl) (VA.to (vl_cons (vd_var 0) (vl_cons (vd_var 1) (vl_cons (vd_var 2) vl_nil))) ⟨f, v, v2, ok, hv, rfl⟩) (fun H' h => h))
theorem dfn_subtract (T : Txt w K mg) {C : Addr} (hX : ExcAt K mg "BadNumber" C) : Df P w K mg base "subtract" 7 (spX K C fun ds => ∃ (f : Form) (v v2 : PyData), f.Ok ∧ (hasB f v = false ∨ (hasB f v = true ∧ hasB f v2 = false)) ∧ ds = [encF f, v, v2]) := by
  have DX := dfn__require_operands (P := P) (w := w) (base := base) T hX
  refine dfx_of T.a_subtract sc_subtract (fun ds h => ?_) (fun fa cdv A' outer s H E S' ds hr h => ?_)
  · obtain ⟨f, v, v2, _, _, rfl⟩ := h; rfl
  · obtain ⟨f, v, v2, ok, hv, rfl⟩ := h
    exact vx_exX (vex_call DX hr (by decide) (takes_of rfl rfl rfl rfl) (VA.to (vl_cons (vd_var 0) (vl_cons (vd_var 1) (vl_cons (vd_var 2) vl_nil))) ⟨f, v, v2, ok, hv, rfl⟩) (fun H' h => h))
theorem dfn_multiply (T : Txt w K mg) {C : Addr} (hX : ExcAt K mg "BadNumber" C) : Df P w K mg base "multiply" 7 (spX K C fun ds => ∃ (f : Form) (v v2 : PyData), f.Ok ∧ (hasB f v = false ∨ (hasB f v = true ∧ hasB f v2 = false)) ∧ ds = [encF f, v, v2]) := by
  have DX := dfn__require_operands (P := P) (w := w) (base := base) T hX
  refine dfx_of T.a_multiply sc_multiply (fun ds h => ?_) (fun fa cdv A' outer s H E S' ds hr h => ?_)
  · obtain ⟨f, v, v2, _, _, rfl⟩ := h; rfl
  · obtain ⟨f, v, v2, ok, hv, rfl⟩ := h
    exact vx_exX (vex_call DX hr (by decide) (takes_of rfl rfl rfl rfl) (VA.to (vl_cons (vd_var 0) (vl_cons (vd_var 1) (vl_cons (vd_var 2) vl_nil))) ⟨f, v, v2, ok, hv, rfl⟩) (fun H' h => h))
theorem dfn_divide (T : Txt w K mg) {C : Addr} (hX : ExcAt K mg "BadNumber" C) : Df P w K mg base "divide" 7 (spX K C fun ds => ∃ (f : Form) (v v2 : PyData), f.Ok ∧ (hasB f v = false ∨ (hasB f v = true ∧ hasB f v2 = false)) ∧ ds = [encF f, v, v2]) := by
  have DX := dfn__require_operands (P := P) (w := w) (base := base) T hX
  refine dfx_of T.a_divide sc_divide (fun ds h => ?_) (fun fa cdv A' outer s H E S' ds hr h => ?_)
  · obtain ⟨f, v, v2, _, _, rfl⟩ := h; rfl
  · obtain ⟨f, v, v2, ok, hv, rfl⟩ := h
    exact vx_exX (vex_call DX hr (by decide) (takes_of rfl rfl rfl rfl) (VA.to (vl_cons (vd_var 0) (vl_cons (vd_var 1) (vl_cons (vd_var 2) vl_nil))) ⟨f, v, v2, ok, hv, rfl⟩) (fun H' h => h))
theorem dfn_next_up (T : Txt w K mg) {C : Addr} (hX : ExcAt K mg "BadNumber" C) : Df P w K mg base "next_up" 7 (spX K C fun ds => ∃ (f : Form) (v : PyData), f.Ok ∧ hasB f v = false ∧ ds = [encF f, v]) := by
  have D := df_require_format (P := P) (w := w) (base := base) T
  have DX := dfn_require_number (P := P) (w := w) (base := base) T hX
  refine dfx_of T.a_next_up sc_next_up (fun ds h => ?_) (fun fa cdv A' outer s H E S' ds hr h => ?_)
  · obtain ⟨f, v, _, _, rfl⟩ := h; rfl
  · obtain ⟨f, v, ok, hv, rfl⟩ := h
    refine vx_expr (VE.to (vd_call D hr (by decide) (vl_cons (vd_var 0) vl_nil) ⟨f, ok, rfl, rfl⟩) ?_)
    exact vx_exX (vex_call DX hr (by decide) (takes_of rfl rfl rfl rfl) (VA.to (vl_cons (vd_var 0) (vl_cons (vd_var 1) vl_nil)) ⟨f, v, ok, hv, rfl⟩) (fun H' h => h))
theorem dfn_square_root (T : Txt w K mg) {C : Addr} (hX : ExcAt K mg "BadNumber" C) : Df P w K mg base "square_root" 6 (spX K C fun ds => ∃ (f : Form) (v : PyData), f.Ok ∧ hasB f v = false ∧ ds = [encF f, v]) := by
  have D := df_require_format (P := P) (w := w) (base := base) T
  have DX := dfn_require_number (P := P) (w := w) (base := base) T hX
  refine dfx_of T.a_square_root sc_square_root (fun ds h => ?_) (fun fa cdv A' outer s H E S' ds hr h => ?_)
  · obtain ⟨f, v, _, _, rfl⟩ := h; rfl
  · obtain ⟨f, v, ok, hv, rfl⟩ := h
    refine vx_expr (VE.to (vd_call D hr (by decide) (vl_cons (vd_var 0) vl_nil) ⟨f, ok, rfl, rfl⟩) ?_)
    exact vx_exX (vex_call DX hr (by decide) (takes_of rfl rfl rfl rfl) (VA.to (vl_cons (vd_var 0) (vl_cons (vd_var 1) vl_nil)) ⟨f, v, ok, hv, rfl⟩) (fun H' h => h))
-- no dyadic, no fraction, no rule
theorem dfd_is_number (T : Txt w K mg) {C : Addr} (hX : ExcAt K mg "BadDyadic" C) : Df P w K mg base "is_number" 5 (spX K C fun ds => ∃ (f : Form) (v : PyData), f.Ok ∧ dyB v = false ∧ ds = [encF f, v]) := by
  have D2 := df_require_format (P := P) (w := w) (base := base) T
  have D3 := df_is_dyadic (P := P) (w := w) (base := base) T
  refine dfx_of T.a_is_number sc_is_number (fun ds h => ?_) (fun fa cdv A' outer s H E S' ds hr h => ?_)
  · obtain ⟨f, v, _, _, rfl⟩ := h; rfl
  · obtain ⟨f, v, ok, hv, rfl⟩ := h
    refine vx_expr (VE.to (vd_call D2 hr (by decide) (vl_cons (vd_var 0) vl_nil) ⟨f, ok, rfl, rfl⟩) ?_)
    refine vx_if (t := true) (VB.is (vb_not (vb_val (vd_call D3 hr (by decide) (vl_cons (vd_var 1) vl_nil) ⟨v, rfl, rfl⟩))) (by rw [hv]; rfl)) (fun _ => ?_) (fun c => by cases c)
    exact vx_own hX (takes_of rfl rfl rfl rfl) (fun H' h => h)
theorem dfq_round_to (T : Txt w K mg) {C : Addr} (hX : ExcAt K mg "BadFraction" C) : Df P w K mg base "round_to" 6 (spX K C fun ds => ∃ (f : Form) (a b : PyData), f.Ok ∧ (within a (-(10 ^ 60)) (10 ^ 60) && within b 1 (10 ^ 60)) = false ∧ ds = [encF f, a, b]) := by
  have D2 := df_require_format (P := P) (w := w) (base := base) T
  have DW := df_is_within (P := P) (w := w) (base := base) T
  obtain ⟨t, hm⟩ := T.c_GREATEST_PART
  refine dfx_of T.a_round_to sc_round_to (fun ds h => ?_) (fun fa cdv A' outer s H E S' ds hr h => ?_)
  · obtain ⟨f, a, b, _, _, rfl⟩ := h; rfl
  · obtain ⟨f, a, b, ok, hv, rfl⟩ := h
    refine vx_expr (VE.to (vd_call D2 hr (by decide) (vl_cons (vd_var 0) vl_nil) ⟨f, ok, rfl, rfl⟩) ?_)
    refine vx_if (t := true) (VB.is (VW.vt (vwb_or (vb_not (vb_val (vd_call DW hr (by decide) (vl_cons (vd_var 1) (vl_cons (vd_neg (vd_gint hm)) (vl_cons (vd_gint hm) vl_nil))) ⟨a, _, _, rfl, rfl⟩))) fun _ => vwb_or1 (vb_not (vb_val (vd_call DW hr (by decide) (vl_cons (vd_var 2) (vl_cons vd_int (vl_cons (vd_gint hm) vl_nil))) ⟨b, _, _, rfl, rfl⟩))))) ?_) (fun _ => ?_) (fun c => by cases c)
    · rw [show (10 : Int) ^ 60 = 1000000000000000000000000000000000000000000000000000000000000 by decide +kernel] at hv
      rw [← Bool.not_and, hv]; rfl
    · exact vx_own hX (takes_of rfl rfl rfl rfl) (fun H' h => h)
theorem dfr_require_rule (T : Txt w K mg) {C : Addr} (hX : ExcAt K mg "BadRule" C) : Df P w K mg base "require_rule" 1 (spX K C fun ds => ∃ v, noRule v ∧ ds = [v]) := by
  obtain ⟨t, hm, hq⟩ := T.c_RULES
  refine dfx_of T.a_require_rule sc_require_rule (fun ds h => ?_) (fun fa cdv A' outer s H E S' ds hr h => ?_)
  · obtain ⟨v, _, rfl⟩ := h; rfl
  · obtain ⟨v, ⟨h1, h2⟩, rfl⟩ := h
    refine vx_if (t := true) (VB.is (vb_notinT hr.units (vd_var 0) (vd_globT (ds := Rule.all.map fun r => .str r.s) hm hq (T.d_RULES _ hm) rfl) h1) (by rw [h2]; rfl)) (fun _ => ?_) (fun c => by cases c)
    exact vx_own hX (takes_of rfl rfl rfl rfl) (fun H' h => h)
theorem dfr_arity (T : Txt w K mg) {C : Addr} (hX : ExcAt K mg "BadRule" C) : Df P w K mg base "arity" 2 (spX K C fun ds => ∃ v, noRule v ∧ ds = [v]) := by
  have DX := dfr_require_rule (P := P) (w := w) (base := base) T hX
  refine dfx_of T.a_arity sc_arity (fun ds h => ?_) (fun fa cdv A' outer s H E S' ds hr h => ?_)
  · obtain ⟨v, _, rfl⟩ := h; rfl
  · obtain ⟨v, h1, rfl⟩ := h
    exact vx_exX (vex_call DX hr (by decide) (takes_of rfl rfl rfl rfl) (VA.to (vl_cons (vd_var 0) vl_nil) ⟨v, h1, rfl⟩) (fun H' h => h))
theorem dfr_holds_for (T : Txt w K mg) {C : Addr} (hX : ExcAt K mg "BadRule" C) : Df P w K mg base "holds_for" 7 (spX K C fun ds => ∃ (f : Form) (v z : PyData), f.Ok ∧ noRule v ∧ ds = [encF f, v, z]) := by
  have D := df_require_format (P := P) (w := w) (base := base) T
  have DX := dfr_require_rule (P := P) (w := w) (base := base) T hX
  refine dfx_of T.a_holds_for sc_holds_for (fun ds h => ?_) (fun fa cdv A' outer s H E S' ds hr h => ?_)
  · obtain ⟨f, v, z, _, _, rfl⟩ := h; rfl
  · obtain ⟨f, v, z, ok, h1, rfl⟩ := h
    refine vx_expr (VE.to (vd_call D hr (by decide) (vl_cons (vd_var 0) vl_nil) ⟨f, ok, rfl, rfl⟩) ?_)
    exact vx_exX (vex_call DX hr (by decide) (takes_of rfl rfl rfl rfl) (VA.to (vl_cons (vd_var 1) vl_nil) ⟨v, h1, rfl⟩) (fun H' h => h))
theorem dfr_holds (T : Txt w K mg) {C : Addr} (hX : ExcAt K mg "BadRule" C) : Df P w K mg base "holds" 4 (spX K C fun ds => ∃ (f : Form) (v : PyData), f.Ok ∧ noRule v ∧ ds = [encF f, v]) := by
  have D := df_require_format (P := P) (w := w) (base := base) T
  have DX := dfr_require_rule (P := P) (w := w) (base := base) T hX
  refine dfx_of T.a_holds sc_holds (fun ds h => ?_) (fun fa cdv A' outer s H E S' ds hr h => ?_)
  · obtain ⟨f, v, _, _, rfl⟩ := h; rfl
  · obtain ⟨f, v, ok, h1, rfl⟩ := h
    refine vx_expr (VE.to (vd_call D hr (by decide) (vl_cons (vd_var 0) vl_nil) ⟨f, ok, rfl, rfl⟩) ?_)
    exact vx_exX (vex_call DX hr (by decide) (takes_of rfl rfl rfl rfl) (VA.to (vl_cons (vd_var 1) vl_nil) ⟨v, h1, rfl⟩) (fun H' h => h))
theorem dfr_counterexample (T : Txt w K mg) {C : Addr} (hX : ExcAt K mg "BadRule" C) : Df P w K mg base "counterexample" 5 (spX K C fun ds => ∃ (f : Form) (v : PyData), f.Ok ∧ noRule v ∧ ds = [encF f, v]) := by
  have DX := dfr_holds (P := P) (w := w) (base := base) T hX
  refine dfx_of T.a_counterexample sc_counterexample (fun ds h => ?_) (fun fa cdv A' outer s H E S' ds hr h => ?_)
  · obtain ⟨f, v, _, _, rfl⟩ := h; rfl
  · obtain ⟨f, v, ok, h1, rfl⟩ := h
    exact vx_ifX (vex_call DX hr (by decide) (takes_of rfl rfl rfl rfl) (VA.to (vl_cons (vd_var 0) (vl_cons (vd_var 1) vl_nil)) ⟨f, v, ok, h1, rfl⟩) (fun H' h => h))
theorem dfr_parting (T : Txt w K mg) {C : Addr} (hX : ExcAt K mg "BadRule" C) : Df P w K mg base "parting" 2 (spX K C fun ds => ∃ (v u : PyData), (noRule v ∨ ((∃ r : Rule, v = .str r.s) ∧ noRule u)) ∧ ds = [v, u]) := by
  have D := df_require_rule (P := P) (w := w) (base := base) T
  have DX := dfr_require_rule (P := P) (w := w) (base := base) T hX
  refine dfx_of T.a_parting sc_parting (fun ds h => ?_) (fun fa cdv A' outer s H E S' ds hr h => ?_)
  · obtain ⟨v, u, _, rfl⟩ := h; rfl
  · obtain ⟨v, u, h1 | ⟨⟨r, rfl⟩, h1⟩, rfl⟩ := h
    · exact vx_exX (vex_call DX hr (by decide) (takes_of rfl rfl rfl rfl) (VA.to (vl_cons (vd_var 0) vl_nil) ⟨v, h1, rfl⟩) (fun H' h => h))
    · refine vx_expr (VE.to (vd_call D hr (by decide) (vl_cons (vd_var 0) vl_nil) ⟨r, rfl, rfl⟩) ?_)
      exact vx_exX (vex_call DX hr (by decide) (takes_of rfl rfl rfl rfl) (VA.to (vl_cons (vd_var 1) vl_nil) ⟨u, h1, rfl⟩) (fun H' h => h))
-- numbers
def numsB (f : Form) (v : PyData) (n : Nat) : Bool := match v with
  | .tuple xs => decide (xs.length = n) && xs.all (hasB f)
  | _ => false
theorem dfv__are_numbers (T : Txt w K mg) : Df P w K mg base "_are_numbers" 5 (spD K fun ds d => ∃ (f : Form) (v : PyData) (n : Nat), f.Ok ∧ n ≤ 100 ∧ numsB f v n = false ∧ ds = [encF f, v, .int (n : Int)] ∧ d = .bool false) := by
  have DH := df_has_number (P := P) (w := w) (base := base) T
  refine df_of T.a__are_numbers sc__are_numbers (fun ds d h => ?_) (fun fa cdv A' outer s H E S' ds d hr h => ?_)
  · obtain ⟨f, v, n, _, _, _, rfl, _⟩ := h; rfl
  · obtain ⟨f, v, n, ok, hn, hv, rfl, rfl⟩ := h
    have nd := sc__are_numbers.nd
    cases v with
    | tuple xs =>
      by_cases hl : xs.length = n
      · refine vs_ifB (VB.is (d' := false) (VW.vt (vwb_or (vb_not (vb_val (vd_isi T.m_isinstance T.m_tuple (by decide +kernel) (vd_var 1) (kit_tuple _)))) fun _ => vwb_or1 (vb_neI (vd_len T.m_len (vd_var 1) rfl) (vd_var 2)))) (by simp [isTupD, hl])) (fun c => by cases c) (fun _ => vs_nil ?_)
        refine vs_ret ((vd_all (bs := xs.map (hasB f)) T.m_all (VD.is (d' := .list ((xs.map (hasB f)).map .bool)) (vd_lcm 3 (fun d => .bool (hasB f d)) (vi_tup (VE.to (vd_var 1) ⟨_, rfl, rfl⟩)) (by omega) (fun d hd D sh Hs C cl fp => vd_call DH hr (by decide) (vl_cons (vd_var 0) (vl_cons (vd_var 3) vl_nil)) ⟨f, _, ok, rfl, rfl⟩) nd (blkOk_by (own := [("number", 3)]) (N := ["form", "numbers", "many", "number"]) (sc := defScope s__are_numbers) (by decide +kernel)) (fun _ _ _ _ _ => pg_name (i := 3) nd rfl (Or.inl rfl))) (by rw [List.map_map]; rfl))).is ?_)
        rw [List.all_map]
        have : (decide (xs.length = n) && xs.all (hasB f)) = false := hv
        rw [decide_eq_true hl, Bool.true_and] at this
        exact congrArg PyData.bool this
      · exact vs_ifB (VB.is (d' := true) (VW.vt (vwb_or (vb_not (vb_val (vd_isi T.m_isinstance T.m_tuple (by decide +kernel) (vd_var 1) (kit_tuple _)))) fun _ => vwb_or1 (vb_neI (vd_len T.m_len (vd_var 1) rfl) (vd_var 2)))) (by simp [isTupD]; omega)) (fun _ => vs_ret vd_bl) (fun c => by cases c)
    | none => exact vs_ifB (VB.is (d' := true) (VW.vt (vwb_or (y := true) (vb_not (vb_val (vd_isi T.m_isinstance T.m_tuple (by decide +kernel) (vd_var 1) (kit_tuple _)))) fun h => by cases h)) rfl) (fun _ => vs_ret vd_bl) (fun c => by cases c)
    | bool b => exact vs_ifB (VB.is (d' := true) (VW.vt (vwb_or (y := true) (vb_not (vb_val (vd_isi T.m_isinstance T.m_tuple (by decide +kernel) (vd_var 1) (kit_tuple _)))) fun h => by cases h)) rfl) (fun _ => vs_ret vd_bl) (fun c => by cases c)
    | int b => exact vs_ifB (VB.is (d' := true) (VW.vt (vwb_or (y := true) (vb_not (vb_val (vd_isi T.m_isinstance T.m_tuple (by decide +kernel) (vd_var 1) (kit_tuple _)))) fun h => by cases h)) rfl) (fun _ => vs_ret vd_bl) (fun c => by cases c)
    | str b => exact vs_ifB (VB.is (d' := true) (VW.vt (vwb_or (y := true) (vb_not (vb_val (vd_isi T.m_isinstance T.m_tuple (by decide +kernel) (vd_var 1) (kit_tuple _)))) fun h => by cases h)) rfl) (fun _ => vs_ret vd_bl) (fun c => by cases c)
    | list b => exact vs_ifB (VB.is (d' := true) (VW.vt (vwb_or (y := true) (vb_not (vb_val (vd_isi T.m_isinstance T.m_tuple (by decide +kernel) (vd_var 1) (kit_tuple _)))) fun h => by cases h)) rfl) (fun _ => vs_ret vd_bl) (fun c => by cases c)
    | dict b => exact vs_ifB (VB.is (d' := true) (VW.vt (vwb_or (y := true) (vb_not (vb_val (vd_isi T.m_isinstance T.m_tuple (by decide +kernel) (vd_var 1) (kit_tuple _)))) fun h => by cases h)) rfl) (fun _ => vs_ret vd_bl) (fun c => by cases c)
theorem dfm_holds_for (T : Txt w K mg) {C : Addr} (hX : ExcAt K mg "BadNumbers" C) : Df P w K mg base "holds_for" 7 (spX K C fun ds => ∃ (f : Form) (r : Rule) (v : PyData), f.Ok ∧ numsB f v r.ar = false ∧ ds = [encF f, .str r.s, v]) := by
  obtain ⟨qa, ha, hqa⟩ := ar_of T
  have D1 := df_require_format (P := P) (w := w) (base := base) T
  have D2 := df_require_rule (P := P) (w := w) (base := base) T
  have D3 := dfv__are_numbers (P := P) (w := w) (base := base) T
  refine dfx_of T.a_holds_for sc_holds_for (fun ds h => ?_) (fun fa cdv A' outer s H E S' ds hr h => ?_)
  · obtain ⟨f, r, v, _, _, rfl⟩ := h; rfl
  · obtain ⟨f, r, v, ok, hv, rfl⟩ := h
    refine vx_expr (VE.to (vd_call D1 hr (by decide) (vl_cons (vd_var 0) vl_nil) ⟨f, ok, rfl, rfl⟩) ?_)
    refine vx_expr (VE.to (vd_call D2 hr (by decide) (vl_cons (vd_var 1) vl_nil) ⟨r, rfl, rfl⟩) ?_)
    refine vx_if (t := true) (VB.is (vb_not (vb_val (vd_call D3 hr (by decide) (vl_cons (vd_var 0) (vl_cons (vd_var 2) (vl_cons ((vr_kd (vr_glob ha rfl) (vd_var 1) (hqa r)).sc rfl) vl_nil))) ⟨f, v, r.ar, ok, by cases r <;> decide, hv, rfl, rfl⟩))) rfl) (fun _ => ?_) (fun c => by cases c)
    exact vx_own hX (takes_of rfl rfl rfl rfl) (fun H' h => h)
-- implies
theorem vex_is {F : Fm} {X : Cx} {δ : DE} {a b : Expr} {pos : Pos} {p : Hp → Prop} (ha : VEX F X a δ p) (hm : behindInMarks .Is b = false := by exact nomark _) : VEX F X (.Compare a [.Is] [b] pos) δ p := fun σ H Q o s q =>
  (pe_cmpR op_isN (pe_sem X a) (pe_sem X b) hm).sem (ha σ H _ o s q)
theorem dfr_implies (T : Txt w K mg) {C : Addr} (hX : ExcAt K mg "BadRule" C) : Df P w K mg base "implies" 3 (spX K C fun ds => ∃ (v u : PyData), (noRule v ∨ ((∃ r : Rule, v = .str r.s) ∧ noRule u)) ∧ ds = [v, u]) := by
  have DX := dfr_parting (P := P) (w := w) (base := base) T hX
  refine dfx_of T.a_implies sc_implies (fun ds h => ?_) (fun fa cdv A' outer s H E S' ds hr h => ?_)
  · obtain ⟨v, u, _, rfl⟩ := h; rfl
  · obtain ⟨v, u, h1, rfl⟩ := h
    exact vx_retX (vex_is (vex_call DX hr (by decide) (takes_of rfl rfl rfl rfl) (VA.to (vl_cons (vd_var 0) (vl_cons (vd_var 1) vl_nil)) ⟨v, u, h1, rfl⟩) (fun H' h => h)))
/-! ### _law_taken -/
theorem df__law_taken (T : Txt w K mg) : Df P w K mg base "_law_taken" 1 (spR K A_taken) := by
  have mI := T.m_int
  have mL := T.m_len
  obtain ⟨f, fd, F, hm, hb⟩ := T.a__law_taken.ex
  refine ⟨f, fd, _, F.okX sc__law_taken ?_ (fun cdv A' outer s H vs Q E hr hs => ?_), hm, F.kp, hb⟩
  · rintro vs H Q E ⟨S', r, scr, vs', ds, k, rfl, _, _, _, hn, ⟨m, _, _, rfl, rfl⟩, _⟩
    show vs'.length + 1 = 2
    rw [hn.length]; rfl
  · obtain ⟨S, r, scr, vs', ds, k, rfl, hs, hdom, ⟨⟨i, c2, c3, hi, h20, h2l, h3, hrow⟩, hsc⟩, hn, ⟨m, hm0, hm1, rfl, rfl⟩, q⟩ := hs
    obtain ⟨ns, hnl, hsq⟩ := hsc.sq
    cases hn with
    | cons n1 n2 =>
    cases n2
    cases n1
    have hdiv : ∀ z : Int, CDivW z m := fun z => wide_div (b := 64) hm0 (by omega) (by decide) (by decide)
    -- what is left behind a draw
    have fin : ∀ (i' s' c' : Int) (v : Int), 0 ≤ i' → 0 ≤ s' → s' < 2147483647 → 0 ≤ c' → 0 ≤ v → v < m → ∀ H' : Hp, H' r = some (.lst [.ref scr, .int i', .int s', .int c']) → Xt (fun a _ => a = r) H H' → Q (.int v) H' := fun i' s' c' v a1 a2 a3 a4 a5 a6 H' hH' e => by
      refine q _ H' (.int v) e ⟨⟨i', s', c', a1, a2, a3, a4, hH'⟩, hsc.mono e⟩ (.int v) ⟨v, rfl, a5, a6⟩
    have xt : ∀ (H1 : Hp) (xs : List V), Xt (fun a _ => a = r) H H1 → Xt (fun a _ => a = r) H (upd H1 r (.lst xs)) := fun H1 xs e => e.trans (.put (.inl fun _ => rfl))
    have nd := sc__law_taken.nd
    refine ⟨_, PSs.nox (pss_cons (ps_if (pt_cmpR op_gt (pe_ix ix_list (pv 0) pe_int (fun _ _ => rfl)) pe_int (nomark _))
        (pss_cons (ps_set (i := 2) nd rfl (.inl rfl) (pe_op op_mod (pe_callTy call_int1 rfl mI (by decide +kernel) (pa_cons (pe_ix ix_list (pv 0) pe_int (fun _ _ => rfl)) pa_nil)) (pv 1)))
        (pss_cons (ps_asg (pe_op op_fdivW (pe_ix ix_list (pv 0) pe_int (fun _ _ => rfl)) (pv 1)) (pg_sub (pv 0) pe_int set_list))
        (pss_one (ps_ret (pv 2))))) pss_nil)
      (pss_cons (ps_asg (pe_op op_add (pe_ix ix_list (pv 0) pe_int (fun _ _ => rfl)) pe_int) (pg_sub (pv 0) pe_int set_list))
      (pss_cons (ps_if (pt_cmpR op_gt (pe_ix ix_list (pv 0) pe_int (fun _ _ => rfl)) (pe_callB call_len_seq (by rfl) mL PySem.boot_len (pa_cons (pe_ix ix_list (pv 0) pe_int (fun _ _ => rfl)) pa_nil)) (nomark _))
        (pss_cons (ps_asg (pe_op op_mod (pe_callTy call_int1 rfl mI (by decide +kernel) (pa_cons (pe_op op_add (pe_op op_mulX (pe_ix ix_list (pv 0) pe_int (fun _ _ => rfl)) pe_int) pe_int) pa_nil)) pe_int) (pg_sub (pv 0) pe_int set_list))
        (pss_one (ps_ret (pe_op op_mod (pe_callTy call_int1 rfl mI (by decide +kernel) (pa_cons (pe_op op_fdivW (pe_ix ix_list (pv 0) pe_int (fun _ _ => rfl)) pe_int) pa_nil)) (pv 1))))) pss_nil)
      (pss_cons (ps_set (i := 3) nd rfl (.inl rfl) (pe_ix ix_list (pe_ix ix_list (pv 0) pe_int (fun _ _ => rfl)) (pe_op op_sub (pe_ix ix_list (pv 0) pe_int (fun _ _ => rfl)) pe_int) (fun _ _ => rfl)))
      (pss_cons (ps_asg (pe_op op_mod (pe_callTy call_int1 rfl mI (by decide +kernel) (pa_cons (pe_op op_add (pe_op op_add (pe_op op_mulX (pe_ix ix_list (pv 0) pe_int (fun _ _ => rfl)) pe_int) (pv 3)) pe_int) pa_nil)) pe_int) (pg_sub (pv 0) pe_int set_list))
      (pss_cons (ps_if (pt_cmpR op_ge (pv 3) (pe_op op_pow pe_int pe_int) (nomark _)) (pss_one (ps_asg (pe_op op_fdivW (pv 3) (pv 1)) (pg_sub (pv 0) pe_int set_list))) pss_nil)
      (pss_one (ps_ret (pe_op op_mod (pe_callTy call_int1 rfl mI (by decide +kernel) (pa_cons (pv 3) pa_nil)) (pv 1)))))))))), ?_⟩
    have sq0 := SqL.of (K := K) hrow
    refine ⟨_, rfl, r, _, 3, _, rfl, rfl, sq0, rfl, _, _, rfl, rfl, _, rfl, ite2 (fun c0 => ?_) (fun c0 => ?_)⟩
    · -- the rest of a great cell
      refine ⟨_, rfl, r, _, 3, _, rfl, rfl, sq0, rfl, .inl ⟨_, rfl, _, rfl, _, _, rfl, rfl, hm0, ?_⟩⟩
      refine ⟨_, rfl, r, _, 3, _, rfl, rfl, sq0, rfl, _, rfl, _, _, rfl, rfl, hdiv _, ?_⟩
      refine ⟨_, rfl, r, _, 3, 3, rfl, rfl, hrow, rfl, ?_⟩
      refine ⟨_, rfl, ?_⟩
      exact fin i c2 (c3 / m) (c3 % m) hi h20 h2l (Int.ediv_nonneg h3 (by omega)) (Int.emod_nonneg _ (by omega)) (Int.emod_lt_of_pos _ hm0) _ upd_same (xt _ _ (.refl _))
    · refine ⟨_, rfl, r, _, 1, _, rfl, rfl, sq0, rfl, _, _, rfl, rfl, ?_⟩
      refine ⟨_, rfl, r, _, 1, 1, rfl, rfl, hrow, rfl, ?_⟩
      have e1 := xt H ([V.ref scr, .int i, .int c2, .int c3].set 1 (.int (i + 1))) (.refl _)
      generalize hH1 : upd H r (.lst ([V.ref scr, .int i, .int c2, .int c3].set 1 (.int (i + 1)))) = H1 at e1 ⊢
      have hr1 : H1 r = some (.lst [V.ref scr, .int (i + 1), .int c2, .int c3]) := by rw [← hH1]; exact upd_same
      have sq1 := SqL.of (K := K) hr1
      obtain ⟨ns', hnl', hsq'⟩ := (hsc.mono e1).sq
      refine ⟨_, rfl, r, _, 1, _, rfl, rfl, sq1, rfl, _, rfl, r, _, 0, _, rfl, rfl, sq1, rfl, _, _, rfl, .inl hsq', _, _, rfl, rfl, _, rfl, ite2 (fun c1 => ?_) (fun c1 => ?_)⟩
      · refine ⟨_, rfl, r, _, 2, _, rfl, rfl, sq1, rfl, _, _, rfl, rfl, mulx_ok (a := 40) (b := 40) (by omega) (by decide) (by decide), _, _, rfl, rfl, .inl ⟨_, rfl, _, _, rfl, rfl, (by decide : (0 : Int) < 2147483647), ?_⟩⟩
        refine ⟨_, rfl, r, _, 2, 2, rfl, rfl, hr1, rfl, ?_⟩
        have b1 := Int.emod_nonneg (c2 * 48271 + 11) (show (2147483647 : Int) ≠ 0 by decide)
        have b2 := Int.emod_lt_of_pos (c2 * 48271 + 11) (show (0 : Int) < 2147483647 by decide)
        have hr2 : (upd H1 r (.lst ([V.ref scr, .int (i + 1), .int c2, .int c3].set 2 (.int ((c2 * 48271 + 11) % 2147483647))))) r = some (.lst [V.ref scr, .int (i + 1), .int ((c2 * 48271 + 11) % 2147483647), .int c3]) := upd_same
        refine ⟨_, rfl, r, _, 2, _, rfl, rfl, SqL.of hr2, rfl, _, _, rfl, rfl, wide_div (b := 64) (by decide) (by decide) (by decide) (by decide), .inl ⟨_, rfl, _, rfl, _, _, rfl, rfl, hm0, ?_⟩⟩
        exact fin (i + 1) _ c3 _ (by omega) b1 b2 h3 (Int.emod_nonneg _ (by omega)) (Int.emod_lt_of_pos _ hm0) _ hr2 (xt _ _ e1)
      · have hlen : i + 1 ≤ (ns'.map V.int).length := by
          have := c1
          simp only [decide_eq_true_eq] at this
          omega
        rw [List.length_map] at hlen
        have hat : ∃ z, ns'[i.toNat]? = some z := ⟨ns'[i.toNat]'(by omega), by simp⟩
        obtain ⟨z, hz⟩ := hat
        have hz' : atI (ns'.map V.int) (i + 1 - 1) = some (.int z) := by
          have e : i + 1 - 1 = ((i.toNat : Nat) : Int) := by omega
          rw [e]
          exact atI_nat (by rw [List.getElem?_map, hz]; rfl)
        refine ⟨_, rfl, r, _, 0, _, rfl, rfl, sq1, rfl, _, rfl, r, _, 1, _, rfl, rfl, sq1, rfl, _, _, rfl, rfl, _, _, _, _, rfl, rfl, hsq', hz', ?_⟩
        refine ⟨_, rfl, r, _, 2, _, rfl, rfl, sq1, rfl, _, _, rfl, rfl, mulx_ok (a := 40) (b := 40) (by omega) (by decide) (by decide), _, rfl, _, _, rfl, rfl, _, _, rfl, rfl, .inl ⟨_, rfl, _, _, rfl, rfl, (by decide : (0 : Int) < 2147483647), ?_⟩⟩
        refine ⟨_, rfl, r, _, 2, 2, rfl, rfl, hr1, rfl, ?_⟩
        have b1 := Int.emod_nonneg (c2 * 48271 + z + 11) (show (2147483647 : Int) ≠ 0 by decide)
        have b2 := Int.emod_lt_of_pos (c2 * 48271 + z + 11) (show (0 : Int) < 2147483647 by decide)
        have e2 := xt H1 ([V.ref scr, .int (i + 1), .int c2, .int c3].set 2 (.int ((c2 * 48271 + z + 11) % 2147483647))) e1
        generalize hH2 : upd H1 r (.lst ([V.ref scr, .int (i + 1), .int c2, .int c3].set 2 (.int ((c2 * 48271 + z + 11) % 2147483647)))) = H2 at e2 ⊢
        have hr2 : H2 r = some (.lst [V.ref scr, .int (i + 1), .int ((c2 * 48271 + z + 11) % 2147483647), .int c3]) := by rw [← hH2]; exact upd_same
        refine ⟨_, rfl, _, _, rfl, rfl, ⟨by decide, by decide, by decide⟩, _, _, rfl, rfl, _, rfl, ite2 (fun c4 => ?_) (fun c4 => ?_)⟩
        · have hz0 : 0 ≤ z := by
            have := c4
            simp only [decide_eq_true_eq] at this
            exact Int.le_trans (by decide) this
          refine ⟨_, rfl, _, rfl, _, _, rfl, rfl, hdiv _, ?_⟩
          refine ⟨_, rfl, r, _, 3, 3, rfl, rfl, hr2, rfl, ?_⟩
          refine ⟨_, rfl, .inl ⟨_, rfl, _, rfl, _, _, rfl, rfl, hm0, ?_⟩⟩
          exact fin (i + 1) _ (z / m) _ (by omega) b1 b2 (Int.ediv_nonneg hz0 (by omega)) (Int.emod_nonneg _ (by omega)) (Int.emod_lt_of_pos _ hm0) _ upd_same (xt _ _ e2)
        · refine ⟨_, rfl, .inl ⟨_, rfl, _, rfl, _, _, rfl, rfl, hm0, ?_⟩⟩
          exact fin (i + 1) _ c3 _ (by omega) b1 b2 h3 (Int.emod_nonneg _ (by omega)) (Int.emod_lt_of_pos _ hm0) _ hr2 e2
/-! ### _law_pick -/
theorem df__law_pick (T : Txt w K mg) : Df P w K mg base "_law_pick" 2 (spR K A_pick) := by
  refine dr_of T.a__law_pick sc__law_pick (fun ds k h => ?_) (fun f cdv A' outer s H E F r ds k hr hF h => ?_)
  · obtain ⟨xs, _, _, rfl, _⟩ := h; rfl
  · obtain ⟨xs, h0, h1, rfl, rfl⟩ := h
    have hl : 0 < xs.length := List.length_pos_iff.mpr h0
    refine vs_ret (ve_ixL (VE.to (vd_var 1) (ve_taken 0 hF (df__law_taken T) hr (by decide) (vd_len T.m_len (vd_var 1) rfl) (by omega) (by omega) fun i a b => ?_)))
    obtain ⟨d, h2, _, h3⟩ := atI_int a b
    exact ⟨xs, i, d, rfl, rfl, h2, h3⟩
/-! ### _law_format -/
def A_format : List PyData → (PyData → Prop) → Prop := fun ds k => ∃ m : Int, 0 ≤ m ∧ m ≤ 20 ∧ ds = [.int m] ∧ k = fun d => ∃ f : Form, f.Ok ∧ (f.e : Int) ≤ m ∧ d = encF f
theorem df__law_format (T : Txt w K mg) : Df P w K mg base "_law_format" 3 (spR K A_format) := by
  refine dr_of T.a__law_format sc__law_format (fun ds k h => ?_) (fun f cdv A' outer s H E F r ds k hr hF h => ?_)
  · obtain ⟨xs, _, _, rfl, _⟩ := h; rfl
  · obtain ⟨m, h0, h1, rfl, rfl⟩ := h
    have nd := sc__law_format.nd
    refine vs_asg 2 (ve_pick 0 hF (df__law_pick T) hr (by decide) <| ve_lst <| va_consD vd_int <| va_consD vd_int <| va_consD vd_int <| va_consD vd_int <| va_cons <| ve_add <| VE.to vd_int <| ve_taken 0 hF (df__law_taken T) hr (by decide) vd_int (by decide) (by decide) fun i h1 h2 => ⟨4, i, rfl, rfl, va_nil ⟨sz_le (by simp), _, rfl, by simp, by simp, fun x hx => ?_⟩⟩) nd
    obtain ⟨p, rfl, p4, p10⟩ : ∃ p : Nat, x = .int p ∧ 4 ≤ p ∧ p ≤ 10 := by
      simp only [List.mem_cons, List.not_mem_nil, or_false] at hx
      rcases hx with rfl | rfl | rfl | rfl | rfl
      · exact ⟨4, rfl, by omega, by omega⟩
      · exact ⟨4, rfl, by omega, by omega⟩
      · exact ⟨5, rfl, by omega, by omega⟩
      · exact ⟨6, rfl, by omega, by omega⟩
      · exact ⟨(4 + i).toNat, congrArg PyData.int (by omega), by omega, by omega⟩
    clear hx h1 h2
    refine vs_asg 3 (ve_pick 0 hF (df__law_pick T) hr (by decide) <| ve_lst <| va_consD vd_int <| va_consD vd_int <| va_consD (vd_sub vd_int vd_int) <| va_consD (vd_sub vd_int (vd_var 2)) <| va_consD (vd_sub vd_int (vd_var 2)) <| va_consD (vd_sub vd_int (vd_var 2)) <|
      va_cons <| ve_sub <| ve_taken 0 hF (df__law_taken T) hr (by decide) vd_int (by decide) (by decide) fun i h1 h2 => VE.to vd_int ⟨i, 40, rfl, rfl, va_nil ⟨sz_le (by simp), _, rfl, by simp, by simp, fun x hx => ?_⟩⟩) nd
    obtain ⟨low, rfl, lo, hi⟩ : ∃ low : Int, x = .int low ∧ -40 ≤ low ∧ low ≤ 9 := by
      simp only [List.mem_cons, List.not_mem_nil, or_false] at hx
      rcases hx with rfl | rfl | rfl | rfl | rfl | rfl | rfl <;> exact ⟨_, rfl, by omega, by omega⟩
    clear hx h1 h2
    refine vs_asg 4 (ve_add <| VE.to (vd_var 3) <| ve_pick 0 hF (df__law_pick T) hr (by decide) <| ve_lst <| va_consD vd_int <| va_consD vd_int <| va_consD vd_int <| va_consD (vd_sub (vd_var 2) vd_int) <| va_consD (vd_var 2) <| va_consD (vd_add (vd_var 2) vd_int) <|
      va_cons <| ve_taken 0 hF (df__law_taken T) hr (by decide) vd_int (by decide) (by decide) fun i h1 h2 => va_nil ⟨sz_le (by simp), _, rfl, by simp, by simp, fun x hx => ?_⟩) nd
    obtain ⟨j, rfl, j0, j1⟩ : ∃ j : Int, x = .int j ∧ 0 ≤ j ∧ j ≤ 20 := by
      simp only [List.mem_cons, List.not_mem_nil, or_false] at hx
      rcases hx with rfl | rfl | rfl | rfl | rfl | rfl | rfl <;> exact ⟨_, rfl, by omega, by omega⟩
    clear hx h1 h2
    refine ⟨low, j, rfl, rfl, ?_⟩
    refine vs_asg 4 (VE.to (vd_min3 rfl T.m_min (vd_var 4) (vd_add (vd_var 3) (vd_var 1)) vd_int) ?_) nd
    refine vs_asg 5 (ve_pick 0 hF (df__law_pick T) hr (by decide) (VE.to (vd_lst (vl_cons vd_str (vl_cons vd_str (vl_cons vd_str (vl_cons vd_str (vl_cons vd_str vl_nil)))))) ⟨_, rfl, by simp, by simp, fun x hx => ?_⟩)) nd
    obtain ⟨mo, rfl⟩ : ∃ mo : Mode, x = .str mo.s := by
      simp only [List.mem_cons, List.not_mem_nil, or_false] at hx
      rcases hx with rfl | rfl | rfl | rfl | rfl
      · exact ⟨.even, rfl⟩
      · exact ⟨.away, rfl⟩
      · exact ⟨.down, rfl⟩
      · exact ⟨.up, rfl⟩
      · exact ⟨.zero, rfl⟩
    clear hx
    refine vs_ret <| ve_tup <| va_consD (vd_var 2) <| va_consD (vd_var 3) <| va_consD (vd_var 4) <| va_consD (vd_var 5) <| va_cons <| ve_pick 0 hF (df__law_pick T) hr (by decide) <| VE.to (vd_lst (vl_cons vd_str (vl_cons vd_str vl_nil))) ⟨_, rfl, by simp, by simp, fun x hx => ?_⟩
    obtain ⟨g, rfl⟩ : ∃ g : Bool, x = .str (tinyS g) := by
      simp only [List.mem_cons, List.not_mem_nil, or_false] at hx
      rcases hx with rfl | rfl
      · exact ⟨true, rfl⟩
      · exact ⟨false, rfl⟩
    clear hx
    refine va_cons (ve_pick 0 hF (df__law_pick T) hr (by decide) (VE.to (vd_lst (vl_cons vd_str (vl_cons vd_str vl_nil))) ⟨_, rfl, by simp, by simp, fun x hx => va_nil ⟨sz_le (by simp), ?_⟩⟩))
    obtain ⟨b, rfl⟩ : ∃ b : Bool, x = .str (hugeS b) := by
      simp only [List.mem_cons, List.not_mem_nil, or_false] at hx
      rcases hx with rfl | rfl
      · exact ⟨true, rfl⟩
      · exact ⟨false, rfl⟩
    refine ⟨⟨p, low, (min (min (low + j) (low + m)) 40 - low).toNat, mo, g, b⟩, ⟨p4, p10, ?_, lo, ?_⟩, ?_, ?_⟩
    · show (min (min (low + j) (low + m)) 40 - low).toNat ≤ 20; omega
    · show low + ((min (min (low + j) (low + m)) 40 - low).toNat : Int) ≤ 40; omega
    · show ((min (min (low + j) (low + m)) 40 - low).toNat : Int) ≤ m; omega
    · have e : low + ((min (min (low + j) (low + m)) 40 - low).toNat : Int) = min (min (low + j) (low + m)) 40 := by omega
      unfold encF
      rw [e]
/-! ### _law_value -/
def A_value : List PyData → PyData → Prop := fun ds d => ∃ (f : Form) (r : Res), f.Ok ∧ (∀ u, r = .fin u → u.natAbs < 2 ^ 5000) ∧ ds = [encF f, encR r] ∧ d = encV f r
theorem df__law_value (T : Txt w K mg) : Df P w K mg base "_law_value" 1 (spD K A_value) := by
  refine df_of T.a__law_value sc__law_value (fun ds d h => ?_) (fun fa cdv A' outer s H E S' ds d hr h => ?_)
  · obtain ⟨f, u, _, _, rfl, _⟩ := h; rfl
  · obtain ⟨f, r, ok, hb, rfl, rfl⟩ := h
    have nd := sc__law_value.nd
    refine vs_ifB (vb_val (vd_isi T.m_isinstance T.m_str (by decide +kernel) (vd_var 1) (kit_str _))) (fun c => ?_) (fun c => vs_nil ?_)
    · refine vs_ret ((vd_var 1).is ?_)
      cases r
      · cases c
      · rfl
      · rfl
    · obtain ⟨u, rfl⟩ : ∃ u, r = .fin u := by
        cases r
        · exact ⟨_, rfl⟩
        · cases c
        · cases c
      refine vs_ifB (vb_eqI (vd_var 1) vd_int) (fun c0 => ?_) (fun c0 => vs_nil ?_)
      · refine vs_ret ((vd_tup (vl_cons vd_int (vl_cons vd_int vl_nil))).is ?_)
        show _ = valD f u
        unfold valD
        rw [if_pos (of_decide_eq_true c0)]
      have hu : u ≠ 0 := of_decide_eq_false c0
      refine vs_par 2 3 (VA.to (vl_cons (vd_int1 T.m_int (vd_var 1)) (vl_cons (vd_ixT (vd_var 0) vd_int rfl) vl_nil)) ⟨_, _, rfl, ?_⟩) nd
      refine vs_while (fun m δ => ∃ (n : Int) (j : Nat), m = n.natAbs ∧ δ = [some (.dat (encF f)), some (.dat (.int u)), some (.dat (.int n)), some (.dat (.int (f.low + j)))] ∧ n ≠ 0 ∧ u = n * 2 ^ j)
        ⟨_, u, 0, rfl, by simp [List.set, startD, encR], hu, by simp⟩ (fun m δ hI => ?_) PassesOwn.never
      obtain ⟨n, j, rfl, rfl, hn, he⟩ := hI
      refine VT.to (vb_eqI (vd_mod (vd_var 2) vd_int (by decide)) vd_int) ?_
      by_cases hc : n % 2 = 0
      · rw [decide_eq_true hc, if_pos rfl]
        refine vs_par 2 3 (VA.to (vl_cons (vd_fdiv (vd_var 2) vd_int (wide_div (b := 10) (by decide) (by decide) (by decide) (by decide))) (vl_cons (vd_add (vd_var 3) vd_int) vl_nil)) ⟨_, _, rfl, vs_nil ?_⟩) nd
        refine ⟨(n / 2).natAbs, by omega, n / 2, j + 1, rfl, ?_, by omega, ?_⟩
        · have : f.low + (j : Int) + 1 = f.low + ((j + 1 : Nat) : Int) := by omega
          rw [this]; rfl
        · have e : n = n / 2 * 2 := by omega
          rw [Int.pow_succ, Int.mul_comm (2 ^ j) 2, ← Int.mul_assoc, ← e]
          exact he
      · rw [decide_eq_false hc, if_neg Bool.false_ne_true]
        obtain ⟨e1, e2⟩ := tz_unique he (by omega)
        refine vs_ret ((vd_tup (vl_cons (vd_var 2) (vl_cons (vd_var 3) vl_nil))).is ?_)
        show _ = valD f u
        unfold valD
        rw [if_neg hu, e1, e2]
/-! ### _law_two -/
def A_two : List PyData → PyData → Prop := fun ds d => ∃ n : Int, 0 ≤ n ∧ n ≤ 100000 ∧ ds = [.int n] ∧ d = .int (2 ^ n.toNat)
theorem df__law_two (T : Txt w K mg) : Df P w K mg base "_law_two" 1 (spD K A_two) := by
  refine df_of T.a__law_two sc__law_two (fun ds d h => ?_) (fun f cdv A' outer s H E S' ds d hr h => ?_)
  · obtain ⟨n, _, _, rfl, _⟩ := h; rfl
  · obtain ⟨n, h0, h1, rfl, rfl⟩ := h
    refine vs_ret (VD.is (vd_shl vd_int (vd_var 0) ?_) (by rw [Int.one_mul]))
    have e : n = (n.toNat : Int) := by omega
    rw [e]
    exact shl_ok (n := 1) (by decide) (by omega)
/-! ### _law_normal -/
def A_nrm : List PyData → PyData → Prop := fun ds d => ∃ f : Form, f.Ok ∧ ds = [encF f] ∧ d = .int (nrm f)
theorem df__law_normal (T : Txt w K mg) : Df P w K mg base "_law_normal" 2 (spD K A_nrm) := by
  refine df_of T.a__law_normal sc__law_normal (fun ds d h => ?_) (fun f cdv A' outer s H E S' ds d hr h => ?_)
  · obtain ⟨f, _, rfl, _⟩ := h; rfl
  · obtain ⟨f, ok, rfl, rfl⟩ := h
    have p10 := ok.p10
    have p4 := ok.p4
    refine vs_ret (VD.is (vd_call (df__law_two T) hr (by decide) (vl_cons (vd_sub (vd_ixT (vd_var 0) vd_int rfl) vd_int) vl_nil) ⟨_, ?_, ?_, rfl, rfl⟩) ?_)
    · omega
    · omega
    · have e : ((f.p : Int) - 1).toNat = f.p - 1 := by omega
      rw [e]; rfl
/-! ### _law_least -/
def A_least : List PyData → PyData → Prop := fun ds d => ∃ f : Form, f.Ok ∧ ds = [encF f] ∧ d = .int (if f.g = true then 1 else nrm f)
theorem df__law_least (T : Txt w K mg) : Df P w K mg base "_law_least" 3 (spD K A_least) := by
  refine df_of T.a__law_least sc__law_least (fun ds d h => ?_) (fun f cdv A' outer s H E S' ds d hr h => ?_)
  · obtain ⟨f, _, rfl, _⟩ := h; rfl
  · obtain ⟨f, ok, rfl, rfl⟩ := h
    refine vs_ret (VD.is (vd_ite (vb_eqS (vd_ixT (vd_var 0) vd_int rfl) vd_str) (fun _ => vd_int) (fun _ => vd_call (df__law_normal T) hr (by decide) (vl_cons (vd_var 0) vl_nil) ⟨f, ok, rfl, rfl⟩)) ?_)
    rw [dec_tiny]
    cases f.g <;> rfl
/-! ### _law_top -/
def A_top : List PyData → PyData → Prop := fun ds d => ∃ f : Form, f.Ok ∧ ds = [encF f] ∧ d = .int (top f)
theorem df__law_top (T : Txt w K mg) : Df P w K mg base "_law_top" 2 (spD K A_top) := by
  refine df_of T.a__law_top sc__law_top (fun ds d h => ?_) (fun f cdv A' outer s H E S' ds d hr h => ?_)
  · obtain ⟨f, _, rfl, _⟩ := h; rfl
  · obtain ⟨f, ok, rfl, rfl⟩ := h
    have p10 := ok.p10
    have e20 := ok.e20
    refine vs_ret (VD.is (vd_mul (vd_sub (vd_call (df__law_two T) hr (by decide) (vl_cons (vd_ixT (vd_var 0) vd_int rfl) vl_nil) ⟨_, ?_, ?_, rfl, rfl⟩) vd_int) (vd_call (df__law_two T) hr (by decide) (vl_cons (vd_sub (vd_ixT (vd_var 0) vd_int rfl) (vd_ixT (vd_var 0) vd_int rfl)) vl_nil) ⟨_, ?_, ?_, rfl, rfl⟩) ?_) ?_)
    · omega
    · omega
    · omega
    · omega
    · refine mulx_ok (a := 20) (b := 30) ?_ ?_ (by decide)
      · have h1 : (2 : Int) ^ (f.p : Int).toNat ≤ 2 ^ 10 := Int.pow_le_pow_right₀ f.p 10 (by omega)
        have h2 := two_pow_pos (f.p : Int).toNat
        omega
      · have h1 : (2 : Int) ^ (f.low + (f.e : Int) - f.low).toNat ≤ 2 ^ 20 := Int.pow_le_pow_right₀ _ 20 (by omega)
        have h2 := two_pow_pos (f.low + (f.e : Int) - f.low).toNat
        omega
    · have e1 : (f.p : Int).toNat = f.p := by omega
      have e2 : (f.low + (f.e : Int) - f.low).toNat = f.e := by omega
      rw [e1, e2]; rfl
/-! ### _law_number -/
def A_number : List PyData → (PyData → Prop) → Prop := fun ds k => ∃ f : Form, f.Ok ∧ ds = [encF f] ∧ k = fun d => ∃ u : Int, isNum f u = true ∧ d = .int u
theorem df__law_number (T : Txt w K mg) : Df P w K mg base "_law_number" 4 (spR K A_number) := by
  have DN := df__law_normal (P := P) (w := w) (base := base) T
  have DT := df__law_two (P := P) (w := w) (base := base) T
  have DL := df__law_least (P := P) (w := w) (base := base) T
  have DO := df__law_top (P := P) (w := w) (base := base) T
  have DP := df__law_pick (P := P) (w := w) (base := base) T
  have DK := df__law_taken (P := P) (w := w) (base := base) T
  refine dr_of T.a__law_number sc__law_number (fun ds k h => ?_) (fun fa cdv A' outer s H E F r ds k hr hF h => ?_)
  · obtain ⟨f, _, rfl, _⟩ := h; rfl
  · obtain ⟨f, ok, rfl, rfl⟩ := h
    have nd := sc__law_number.nd
    have p4 := ok.p4
    have p10 := ok.p10
    have e20 := ok.e20
    have hn0 := nrmN_pos f
    have hn1 := nrmN_le ok
    have hp : 2 ^ f.p = 2 * nrmN f := by unfold nrmN; rw [← Nat.pow_succ']; congr 1; omega
    have hn8 : 8 ≤ nrmN f := Nat.pow_le_pow_right (n := 2) (by decide) (show 3 ≤ f.p - 1 by omega)
    have es : f.low + (f.e : Int) - f.low = (f.e : Int) := by omega
    refine vs_par 2 3 (VA.to (vl_cons (VD.is (vd_call DN hr (by decide) (vl_cons (vd_var 1) vl_nil) ⟨f, ok, rfl, rfl⟩) (congrArg PyData.int (nrm_cast f))) (vl_cons (VD.is (vd_sub (vd_ixT (vd_var 1) vd_int rfl) (vd_ixT (vd_var 1) vd_int rfl)) (congrArg PyData.int es)) vl_nil)) ⟨_, _, rfl, ?_⟩) nd
    generalize hn : nrmN f = n at hn0 hn1 hp hn8
    refine vs_asg 4 (ve_add <| VE.to (vd_var 2) <| ve_pick 0 hF DP hr (by decide) <| ve_lst <| va_consD vd_int <| va_consD vd_int <| va_consD vd_int <| va_consD (vd_sub (vd_var 2) vd_int) <| va_consD (vd_sub (vd_var 2) vd_int) <| va_consD (vd_fdiv (vd_var 2) vd_int (wide_div (b := 10) (by decide) (by decide) (by decide) (by decide))) <|
      va_cons <| ve_taken 0 hF DK hr (by decide) (vd_var 2) (by omega) (by omega) fun i h1 h2 => va_nil ⟨sz_le (by simp), _, rfl, by simp, by simp, fun x hx => ?_⟩) nd
    obtain ⟨m, rfl, m0, m1⟩ : ∃ m : Nat, x = .int ((m : Int) - n) ∧ n ≤ m ∧ m < 2 ^ f.p := by
      simp only [List.mem_cons, List.not_mem_nil, or_false] at hx
      rcases hx with rfl | rfl | rfl | rfl | rfl | rfl | rfl
      · exact ⟨n, congrArg PyData.int (by omega), by omega, by omega⟩
      · exact ⟨n + 1, congrArg PyData.int (by omega), by omega, by omega⟩
      · exact ⟨n + 2, congrArg PyData.int (by omega), by omega, by omega⟩
      · exact ⟨n + (n - 1), congrArg PyData.int (by omega), by omega, by omega⟩
      · exact ⟨n + (n - 2), congrArg PyData.int (by omega), by omega, by omega⟩
      · exact ⟨n + n / 2, congrArg PyData.int (by omega), by omega, by omega⟩
      · exact ⟨n + i.toNat, congrArg PyData.int (by omega), by omega, by omega⟩
    clear hx h1 h2
    refine ⟨n, _, rfl, rfl, ?_⟩
    have em : (n : Int) + ((m : Int) - n) = (m : Int) := by omega
    rw [em]
    have m2 : m < 1024 := by have := Nat.pow_le_pow_right (n := 2) (by decide) p10; omega
    refine vs_asg 5 (ve_mul <| VE.to (vd_var 4) <| ve_call DT hr (by decide) <| va_cons <| ve_pick 0 hF DP hr (by decide) <| ve_lst <| va_consD vd_int <| va_consD (vd_min2 rfl T.m_min vd_int (vd_var 3)) <| va_consD (vd_var 3) <|
      va_cons <| ve_taken 0 hF DK hr (by decide) (vd_add (vd_var 3) vd_int) (by omega) (by omega) fun i h1 h2 => va_nil ⟨sz_le (by simp), _, rfl, by simp, by simp, fun x hx => ?_⟩) nd
    obtain ⟨j, rfl, j1⟩ : ∃ j : Nat, x = .int (j : Int) ∧ j ≤ f.e := by
      simp only [List.mem_cons, List.not_mem_nil, or_false] at hx
      rcases hx with rfl | rfl | rfl | rfl
      · exact ⟨0, rfl, by omega⟩
      · exact ⟨(min 1 (f.e : Int)).toNat, congrArg PyData.int (by omega), by omega⟩
      · exact ⟨f.e, rfl, by omega⟩
      · exact ⟨i.toNat, congrArg PyData.int (by omega), by omega⟩
    clear hx h1 h2
    have ej : (2 : Int) ^ (j : Int).toNat = ((2 ^ j : Nat) : Int) := by rw [Int.toNat_natCast]; simp
    have j2 : 2 ^ j ≤ 2 ^ 20 := Nat.pow_le_pow_right (by decide) (by omega)
    refine va_nil ⟨.int (2 ^ (j : Int).toNat), ⟨_, by omega, by omega, rfl, rfl⟩, m, _, rfl, rfl, ?_, ?_⟩
    · rw [ej]; exact mulx_ok (a := 10) (b := 21) (by simpa using m2) (by rw [Int.natAbs_natCast]; omega) (by decide)
    rw [ej, ← Int.natCast_mul]
    have hu : numN f (m * 2 ^ j) = true := num_scaled ok (by omega) m1 j1
    generalize m * 2 ^ j = u at hu
    clear ej em j1 j2 m2 m0 m1
    -- the end: the sign
    have fin : ∀ (δ : DE) (v : Nat), numN f v = true → δ[0]? = some (some (.raw (.ref r))) → δ[5]? = some (some (.dat (.int (v : Int)))) →
        VS F (cxOf (L2.CX P w) P w K mg base ["row", "form", "n", "span", "m", "units"] "_law_number" (defScope s__law_number) fa cdv A' outer s H E).nox ((defBody s__law_number).drop 4) δ { nx := fun _ => ∃ u : Int, isNum f u = true ∧ PyData.none = .int u, rt := fun d => ∃ u : Int, isNum f u = true ∧ d = .int u } := by
      intro δ v hv h0 h5
      refine vs_ret (ve_if (vt_cmp op_gt (nomark _) (ve_taken 0 hF DK hr (by decide) vd_int (by decide) (by decide) (fun i h1 h2 => VE.to vd_int ⟨decide (0 < i), opd_I0 rfl, ?_⟩) h0)))
      by_cases hi : 0 < i
      · rw [decide_eq_true hi, if_pos rfl]
        exact VE.to (vd_var 5 h5) ⟨v, hv, rfl⟩
      · rw [decide_eq_false hi, if_neg Bool.false_ne_true]
        refine VE.to (vd_sub vd_int (vd_var 5 h5)) ⟨_, ?_, rfl⟩
        show numN f ((0 : Int) - (v : Int)).natAbs = true
        rw [show ((0 : Int) - (v : Int)).natAbs = v by omega]
        exact hv
    refine vs_if (vt_cmp op_eq (nomark _) (ve_taken 0 hF DK hr (by decide) vd_int (by decide) (by decide) fun i h1 h2 => VE.to vd_int ⟨_, opd_eqI, ?_⟩))
    by_cases hi : i = 0
    · rw [decide_eq_true hi, if_pos rfl]
      have el : (if f.g = true then (1 : Int) else nrm f) = ((if f.g = true then 1 else nrmN f : Nat) : Int) := by rw [nrm_cast]; split <;> rfl
      refine vs_asg 5 (ve_pick 0 hF DP hr (by decide) <| ve_lst <| va_consD vd_int <| va_consD (VD.is (vd_call DL hr (by decide) (vl_cons (vd_var 1) vl_nil) ⟨f, ok, rfl, rfl⟩) (congrArg PyData.int el)) <| va_consD (VD.is (vd_call DO hr (by decide) (vl_cons (vd_var 1) vl_nil) ⟨f, ok, rfl, rfl⟩) (congrArg PyData.int (top_cast f))) <|
        va_cons <| ve_if <| VT.to (vb_eqS (vd_ixT (vd_var 1) vd_int rfl) vd_str) ?_) nd
      rw [dec_tiny]
      have done : ∀ (v : Nat) (x : PyData), numN f v = true → x ∈ [PyData.int 0, .int ((if f.g = true then 1 else nrmN f : Nat) : Int), .int (topN f : Int), .int (v : Int)] → ∃ z : Nat, numN f z = true ∧ x = .int (z : Int) := by
        intro v x hv hx
        simp only [List.mem_cons, List.not_mem_nil, or_false] at hx
        rcases hx with rfl | rfl | rfl | rfl
        · exact ⟨0, num_zero f, rfl⟩
        · exact ⟨_, num_least ok, rfl⟩
        · exact ⟨_, num_top ok, rfl⟩
        · exact ⟨v, hv, rfl⟩
      by_cases hg : f.g = true
      · rw [if_pos hg]
        refine ve_add <| VE.to vd_int <| ve_taken 0 hF DK hr (by decide) (vd_sub (vd_var 2) vd_int) (by omega) (by omega) fun q q1 q2 => ⟨1, q, rfl, rfl, va_nil ⟨sz_le (by simp), _, rfl, by simp, by simp, fun x hx => vs_nil ?_⟩⟩
        have eq : (1 : Int) + q = ((1 + q.toNat : Nat) : Int) := by omega
        rw [eq] at hx
        obtain ⟨z, hz, rfl⟩ := done _ x (num_sub hg (by omega)) hx
        exact fin _ z hz rfl rfl
      · rw [if_neg hg]
        refine VE.to (vd_var 2) <| va_nil ⟨sz_le (by simp), _, rfl, by simp, by simp, fun x hx => vs_nil ?_⟩
        obtain ⟨z, hz, rfl⟩ := done n x (by
          have := num_least ok
          rw [if_neg hg, hn] at this
          exact this) hx
        exact fin _ z hz rfl rfl
    · rw [decide_eq_false hi, if_neg Bool.false_ne_true]
      exact vs_nil (fin _ u hu rfl rfl)
/-! ### _law_rules -/
def A_lrules : List PyData → PyData → Prop := fun ds d => ds = [] ∧ d = .list (Rule.all.map fun r => .str r.s)
theorem df__law_rules (T : Txt w K mg) : Df P w K mg base "_law_rules" 1 (spD K A_lrules) := by
  obtain ⟨f, fd, F, hm, hb⟩ := T.a__law_rules.ex
  refine ⟨f, fd, _, F.okX sc__law_rules ?_ (fun cdv A' outer s H vs Q E hr hs => ?_), hm, F.kp, hb⟩
  · rintro vs H Q E ⟨S', ds, d, _, hn, ⟨rfl, _⟩, _⟩
    rw [hn.length]; rfl
  · obtain ⟨S', ds, d, hdom, hn, ⟨rfl, rfl⟩, q⟩ := hs
    cases hn
    refine ⟨_, PSs.nox (pss_cons (ps_set (i := 0) sc__law_rules.nd rfl (.inl rfl) (pe_lst (pa_cons pe_str (pa_cons pe_str (pa_cons pe_str (pa_cons pe_str (pa_cons pe_str (pa_cons pe_str (pa_cons pe_str (pa_cons pe_str pa_nil))))))))) rfl (.inl rfl)) (pss_cons (ps_ret (pe_op op_cat (pe_var (i := 0) rfl (.inl rfl)) (pe_lst (pa_cons pe_str (pa_cons pe_str (pa_cons pe_str (pa_cons pe_str (pa_cons pe_str (pa_cons pe_str pa_nil))))))))) pss_nil)), ?_⟩
    refine ⟨by show 8 ≤ sizeLine; decide, fun p hp => ?_⟩
    refine ⟨_, rfl, by show 6 ≤ sizeLine; decide, fun p2 hp2 => ?_⟩
    have hne : p ≠ p2 := fun z => by rw [← z, upd_same] at hp2; cases hp2
    refine ⟨p, p2, _, _, rfl, rfl, (by rw [upd_ne hne]; exact upd_same), upd_same, by show 14 ≤ sizeLine; decide, fun p3 hp3 => ?_⟩
    have n3 : H p3 = none := by
      by_cases e1 : p3 = p2
      · subst e1; rw [upd_same] at hp3; cases hp3
      · rw [upd_ne e1] at hp3
        by_cases e2 : p3 = p
        · subst e2; rw [upd_same] at hp3; cases hp3
        · rw [upd_ne e2] at hp3; exact hp3
    have n2 : H p2 = none := by rw [upd_ne (fun z => hne z.symm)] at hp2; exact hp2
    exact q _ _ (((Xt.new hp).put2 n2).put2 n3) (.lst ⟨fun z => hdom _ z n3, upd_same⟩ (flat_dn ⟨_, rfl, rfl⟩))
/-! ### _law_many -/
def A_lmany : List PyData → PyData → Prop := fun ds d => ∃ r : Rule, ds = [.str r.s] ∧ d = .int (r.ar : Int)
theorem df__law_many (T : Txt w K mg) : Df P w K mg base "_law_many" 1 (spD K A_lmany) := by
  refine df_of T.a__law_many sc__law_many (fun ds d h => ?_) (fun fa cdv A' outer s H E S' ds d hr h => ?_)
  · obtain ⟨r, rfl, _⟩ := h; rfl
  · obtain ⟨r, rfl, rfl⟩ := h
    have e2 : inF (.str r.s) [.str ("third" : Str), .str ("halves" : Str), .str ("squares" : Str)] = decide (r.ar = 1) := by cases r <;> decide +kernel
    refine vs_ret (vd_if ((vb_eqS (vd_var 0) vd_str).is (dec_rule r .group)) (fun c => vd_int.is ?_) (fun c => vd_if ((vb_in (vd_var 0) (vd_lst (vl_cons vd_str (vl_cons vd_str (vl_cons vd_str vl_nil)))) rfl rfl rfl rfl).is e2) (fun c2 => vd_int.is ?_) (fun c2 => vd_int.is ?_)))
    · rw [of_decide_eq_true c]; rfl
    · rw [of_decide_eq_true c2]; rfl
    · have h1 := of_decide_eq_false c
      have h2 := of_decide_eq_false c2
      cases r <;> first | rfl | exact absurd rfl h1 | exact absurd rfl h2
/-! ### law -/
def wordW : List PyData := [.str "format", .str "dyadic", .str "number", .str "fraction", .str "rule", .str "numbers"]
def hotD (i : Nat) : List PyData := (List.range 6).map fun k => .bool (decide (k = i))
/-- the handler: which class it is -/
theorem wrong_suite (T : Txt w K mg) {C C0 C1 C2 C3 C4 C5 : Addr} {oe : Obj} {i : Nat} {x : PyData} (hi : i < 6) (hw : wordW[i]? = some x) {s : Shared} {H : Hp} {g y : Addr} {cdv : Value} {A : Around} {stack : List Env} {pn : List (Addr × Obj)} (hu : A.units + 100 < cLine)
    (hC : ExcC K C) (hz : Zc (.ref C) none oe) (hf : ∃ vs, oe.data = .fields vs) (g0 : mg "BadFormat" = some (.ref C0)) (k0 : PySem.W.kitOne K (.ref C) (.ref C0) = some (decide (0 = i))) (g1 : mg "BadDyadic" = some (.ref C1)) (k1 : PySem.W.kitOne K (.ref C) (.ref C1) = some (decide (1 = i)))
    (g2 : mg "BadNumber" = some (.ref C2)) (k2 : PySem.W.kitOne K (.ref C) (.ref C2) = some (decide (2 = i))) (g3 : mg "BadFraction" = some (.ref C3)) (k3 : PySem.W.kitOne K (.ref C) (.ref C3) = some (decide (3 = i)))
    (g4 : mg "BadRule" = some (.ref C4)) (k4 : PySem.W.kitOne K (.ref C) (.ref C4) = some (decide (4 = i))) (g5 : mg "BadNumbers" = some (.ref C5)) (k5 : PySem.W.kitOne K (.ref C) (.ref C5) = some (decide (5 = i))) :
    VS (Fm.pure fun _ => False) ((cxOf C8.CX0 P w K mg base ["work", "e", "known"] "_law_wrong" (defScope s__law_wrong) g cdv A stack s H C8.E0).nox.suite y ((y, oe) :: pn)) (match defBody s__law_wrong with | .Try _ (.ExceptHandler _ _ b _ :: _) _ _ _ :: _ => b | _ => []) (none :: some (.raw (.ref y)) :: List.replicate ["known"].length none) { nx := fun _ => False, rt := fun d => d = x } := by
  have nd := sc__law_wrong.nd
  have hu' : (A.deeper (envOfC "_law_wrong" (defScope s__law_wrong) s.heap.objs.size g cdv)).units + 80 < cLine := by show A.units + 3 + 80 < cLine; omega
  refine vs_asg 2 (VE.to (vd_lst (vl_cons (vd_isE hC hz hf T.m_isinstance g0 k0) (vl_cons (vd_isE hC hz hf T.m_isinstance g1 k1) (vl_cons (vd_isE hC hz hf T.m_isinstance g2 k2) (vl_cons (vd_isE hC hz hf T.m_isinstance g3 k3) vl_nil))))) ?_) nd
  refine vs_asg 2 (VE.to (VD.is (d' := .list (hotD i)) (vd_catL (vd_var 2) (vd_lst (vl_cons (vd_isE hC hz hf T.m_isinstance g4 k4) (vl_cons (vd_isE hC hz hf T.m_isinstance g5 k5) vl_nil)))) rfl) ?_) nd
  have hc : ((hotD i).countP fun y => PyData.eqv y (.bool true) : Nat) = 1 := by
    match i, hi with
    | 0, _ => decide +kernel
    | 1, _ => decide +kernel
    | 2, _ => decide +kernel
    | 3, _ => decide +kernel
    | 4, _ => decide +kernel
    | 5, _ => decide +kernel
  have hx : (hotD i)[i]? = some (.bool true) ∧ ∀ (m : Nat) (z : PyData), m < i → (hotD i)[m]? = some z → PyData.eqv z (.bool true) = false := by
    unfold hotD
    refine ⟨by simp [hi], fun m z hm e => ?_⟩
    rw [List.getElem?_map, List.getElem?_range (by omega)] at e
    simp only [Option.map_some, Option.some.injEq] at e
    rw [← e, decide_eq_false (by omega)]; decide +kernel
  refine vs_ret (vd_if (x := true) (VB.is (vb_eqI (VD.is (vd_countL (vd_var 2) vd_bl rfl rfl (Nat.lt_of_le_of_lt (Nat.add_le_add_left (by decide : 64 ≤ 80) _) hu') rfl) (by rw [hc])) vd_int) rfl) (fun _ => vd_ixL (ds := wordW) (i := (i : Int)) (vd_lst (vl_cons vd_str (vl_cons vd_str (vl_cons vd_str (vl_cons vd_str (vl_cons vd_str (vl_cons vd_str vl_nil))))))) (vd_indexL (vd_var 2) vd_bl (Nat.lt_of_le_of_lt (Nat.add_le_add_left (by decide : 65 ≤ 80) _) hu') rfl rfl hx.1 (by decide +kernel) hx.2) ?_) (fun c => by cases c))
  obtain ⟨d, h1, h2, _⟩ := atI_int (xs := wordW) (i := (i : Int)) (by omega) (by show (i : Int) < 6; omega)
  rw [Int.toNat_natCast, hw] at h2
  cases h2
  exact h1
-- the law
theorem val_pair {f : Form} (u : Int) : ∃ n k : Int, encV f (.fin u) = .tuple [.int n, .int k] := by
  show ∃ n k : Int, valD f u = _
  unfold valD
  split
  · exact ⟨_, _, rfl⟩
  · exact ⟨_, _, rfl⟩
theorem two_small {f : Form} (ok : f.Ok) : ((2 : Int) ^ (f.p : Int).toNat).natAbs < 2 ^ 40 := by
  rw [Int.toNat_natCast, Int.natAbs_pow]
  exact Nat.pow_lt_pow_right (by decide) (by have := ok.p10; omega)
theorem nums_len {f : Form} {xs : List PyData} {n : Nat} (h : xs.length ≠ n) : numsB f (.tuple xs) n = false := by
  show (decide (xs.length = n) && _) = false
  rw [decide_eq_false h]; rfl
theorem nums_no {f : Form} {xs : List PyData} {n : Nat} {x : PyData} (h : x ∈ xs) (hx : hasB f x = false) : numsB f (.tuple xs) n = false := by
  show (_ && xs.all (hasB f)) = false
  cases e : xs.all (hasB f) with
  | false => rw [Bool.and_false]
  | true => rw [List.all_eq_true.mp e x h] at hx; cases hx
theorem cut_last {n : Nat} (h1 : 1 ≤ n) (h3 : n ≤ 3) : ¬ (HT.sIx n 0 none = 0 ∧ HT.sIx n n (some (-1)) = n) := by
  rcases (show n = 1 ∨ n = 2 ∨ n = 3 by omega) with rfl | rfl | rfl <;> decide
theorem vd_lastN {F : Fm} {X : Cx} {δ : DE} {a b : Expr} {pos : Pos} {one : PyData} {n : Nat} (h1 : 1 ≤ n) (h3 : n ≤ 3) (ha : VD F X a δ (.tuple (cutD (List.replicate n one) none (some (-1))))) (hb : VD F X b δ (.tuple [.none])) : VD F X (.BinOp a .Add b pos) δ (.tuple (List.replicate (n - 1) one ++ [.none])) := by
  rcases (show n = 1 ∨ n = 2 ∨ n = 3 by omega) with rfl | rfl | rfl
  · exact vd_catT0 ha hb
  · exact VD.is (vd_catT ha hb (fun z => by cases z) (fun z => by cases z) (Nat.le_of_ble_eq_true rfl)) rfl
  · exact VD.is (vd_catT ha hb (fun z => by cases z) (fun z => by cases z) (Nat.le_of_ble_eq_true rfl)) rfl
theorem ok_law (T : Txt w K mg) {f cc tb : Addr} {fd : FuncData} (Fu : Fun K "law" "law" s_law f fd) (hc : fd.code = .ref cc) (TB : LamX.TabB base mg cc tb) : FnOk P w K mg base CX0 30 f fd ["script"] (spLawT K tb) := by
  have D__law_format := df__law_format (P := P) (w := w) (base := base) T
  have D__law_value := df__law_value (P := P) (w := w) (base := base) T
  have D__law_pick := df__law_pick (P := P) (w := w) (base := base) T
  have D__law_taken := df__law_taken (P := P) (w := w) (base := base) T
  have D__law_number := df__law_number (P := P) (w := w) (base := base) T
  have D__law_two := df__law_two (P := P) (w := w) (base := base) T
  have D__law_rules := df__law_rules (P := P) (w := w) (base := base) T
  have D__law_many := df__law_many (P := P) (w := w) (base := base) T
  have D_is_format := df_is_format (P := P) (w := w) (base := base) T
  have D_is_dyadic := df_is_dyadic (P := P) (w := w) (base := base) T
  obtain ⟨CF, RF, eF⟩ := T.e_BadFormat
  obtain ⟨CD, RD, eD⟩ := T.e_BadDyadic
  obtain ⟨CN, RN, eN⟩ := T.e_BadNumber
  obtain ⟨CQ, RQ, eQ⟩ := T.e_BadFraction
  obtain ⟨CR, RR, eR⟩ := T.e_BadRule
  obtain ⟨CM, RM, eM⟩ := T.e_BadNumbers
  obtain ⟨XFD, gFD, kFD⟩ := kit_at eF.a.g T.k_BadFormat_BadDyadic
  obtain ⟨XFN, gFN, kFN⟩ := kit_at eF.a.g T.k_BadFormat_BadNumber
  obtain ⟨XFQ, gFQ, kFQ⟩ := kit_at eF.a.g T.k_BadFormat_BadFraction
  obtain ⟨XFR, gFR, kFR⟩ := kit_at eF.a.g T.k_BadFormat_BadRule
  obtain ⟨XFM, gFM, kFM⟩ := kit_at eF.a.g T.k_BadFormat_BadNumbers
  obtain ⟨XDF, gDF, kDF⟩ := kit_at eD.a.g T.k_BadDyadic_BadFormat
  obtain ⟨XDN, gDN, kDN⟩ := kit_at eD.a.g T.k_BadDyadic_BadNumber
  obtain ⟨XDQ, gDQ, kDQ⟩ := kit_at eD.a.g T.k_BadDyadic_BadFraction
  obtain ⟨XDR, gDR, kDR⟩ := kit_at eD.a.g T.k_BadDyadic_BadRule
  obtain ⟨XDM, gDM, kDM⟩ := kit_at eD.a.g T.k_BadDyadic_BadNumbers
  obtain ⟨XNF, gNF, kNF⟩ := kit_at eN.a.g T.k_BadNumber_BadFormat
  obtain ⟨XND, gND, kND⟩ := kit_at eN.a.g T.k_BadNumber_BadDyadic
  obtain ⟨XNQ, gNQ, kNQ⟩ := kit_at eN.a.g T.k_BadNumber_BadFraction
  obtain ⟨XNR, gNR, kNR⟩ := kit_at eN.a.g T.k_BadNumber_BadRule
  obtain ⟨XNM, gNM, kNM⟩ := kit_at eN.a.g T.k_BadNumber_BadNumbers
  obtain ⟨XQF, gQF, kQF⟩ := kit_at eQ.a.g T.k_BadFraction_BadFormat
  obtain ⟨XQD, gQD, kQD⟩ := kit_at eQ.a.g T.k_BadFraction_BadDyadic
  obtain ⟨XQN, gQN, kQN⟩ := kit_at eQ.a.g T.k_BadFraction_BadNumber
  obtain ⟨XQR, gQR, kQR⟩ := kit_at eQ.a.g T.k_BadFraction_BadRule
  obtain ⟨XQM, gQM, kQM⟩ := kit_at eQ.a.g T.k_BadFraction_BadNumbers
  obtain ⟨XRF, gRF, kRF⟩ := kit_at eR.a.g T.k_BadRule_BadFormat
  obtain ⟨XRD, gRD, kRD⟩ := kit_at eR.a.g T.k_BadRule_BadDyadic
  obtain ⟨XRN, gRN, kRN⟩ := kit_at eR.a.g T.k_BadRule_BadNumber
  obtain ⟨XRQ, gRQ, kRQ⟩ := kit_at eR.a.g T.k_BadRule_BadFraction
  obtain ⟨XRM, gRM, kRM⟩ := kit_at eR.a.g T.k_BadRule_BadNumbers
  obtain ⟨XMF, gMF, kMF⟩ := kit_at eM.a.g T.k_BadNumbers_BadFormat
  obtain ⟨XMD, gMD, kMD⟩ := kit_at eM.a.g T.k_BadNumbers_BadDyadic
  obtain ⟨XMN, gMN, kMN⟩ := kit_at eM.a.g T.k_BadNumbers_BadNumber
  obtain ⟨XMQ, gMQ, kMQ⟩ := kit_at eM.a.g T.k_BadNumbers_BadFraction
  obtain ⟨XMR, gMR, kMR⟩ := kit_at eM.a.g T.k_BadNumbers_BadRule
  refine lawT_of (k := 29) (T := tb) (c₁ := cc) (q := (("law" : Str) ++ ".<locals>.") ++ "<lambda>") Fu sc_law hc (by decide) (by decide) rfl rfl rfl rfl (by first | exact .inl rfl | exact .inr rfl) (fun fa A' outer s H E F r a hr hF hT => ?_) (fun _ => rfl) (fun X h => by rfl)
  have nd := sc_law.nd
  have hu100 : (A'.deeper (envOfC "law" (defScope s_law) s.heap.objs.size fa (.ref cc))).units + 100 < cLine := by have := hr.un; omega
  refine vs_asg 2 (ve_draw 1 hF D__law_format hr (by decide) (VA.to (vl_cons vd_int vl_nil) ⟨_, ⟨20, by decide, by decide, rfl, rfl⟩, fun d ⟨f, ok, he, hd⟩ => ?_⟩)) nd
  subst hd
  show VS _ _ _ [some (.raw (.ref a)), some (.raw (.ref r)), some (.dat (.tuple [.int f.p, .int f.low, .int (f.low + f.e), .str f.mode.s, .str (tinyS f.g), .str (hugeS f.inf)])), none, none, none, none, none, none, none, none, none, none] _
  refine vs_asg 3 (VE.to (VD.is (d' := .tuple [.str f.mode.s, .str (tinyS f.g), .str (hugeS f.inf)]) (vd_slT (vd_var 2) (vo_some vd_int) vo_none (by show ¬ (HT.sIx 6 0 _ = 0 ∧ HT.sIx 6 6 _ = 6); decide)) rfl) ?_) nd
  refine @vs_asg _ _ _ _ _ _ _ 4 _ _ (@VE.to _ _ _ _ _ (.list ((oddF f).take 10)) ?_ ?_) nd rfl (.inl rfl) rfl (.inl rfl)
  · exact @VD.is _ _ _ _ _ _ (@vd_lst _ _ _ _ _ _ (@vl_cons _ _ _ _ _ _ _ vd_non (@vl_cons _ _ _ _ _ _ _ (vd_tup vl_nil) (@vl_cons _ _ _ _ _ _ _ (vd_listOf T.m_list (vd_var 2) rfl) (@vl_cons _ _ _ _ _ _ _ (vd_slT (vd_var 2) vo_none (vo_some vd_int) (by show ¬ (HT.sIx 6 0 _ = 0 ∧ HT.sIx 6 6 _ = 6); decide)) (@vl_cons _ _ _ _ _ _ _ (vd_catT (vd_var 2) (vd_tup (vl_cons vd_int vl_nil)) (fun z => by cases z) (fun z => by cases z) (Nat.le_of_ble_eq_true rfl)) (@vl_cons _ _ _ _ _ _ _ (vd_catT (vd_tup (vl_cons vd_int vl_nil)) (vd_slT (vd_var 2) (vo_some vd_int) vo_none (by show ¬ (HT.sIx 6 0 _ = 0 ∧ HT.sIx 6 6 _ = 6); decide)) (fun z => by cases z) (fun z => by cases z) (Nat.le_of_ble_eq_true rfl)) (@vl_cons _ _ _ _ _ _ _ (vd_catT (vd_tup (vl_cons vd_int vl_nil)) (vd_slT (vd_var 2) (vo_some vd_int) vo_none (by show ¬ (HT.sIx 6 0 _ = 0 ∧ HT.sIx 6 6 _ = 6); decide)) (fun z => by cases z) (fun z => by cases z) (Nat.le_of_ble_eq_true rfl)) (@vl_cons _ _ _ _ _ _ _ (vd_catT (vd_tup (vl_cons vd_int (vl_cons vd_int (vl_cons vd_int vl_nil)))) (vd_var 3) (fun z => by cases z) (fun z => by cases z) (Nat.le_of_ble_eq_true rfl)) (@vl_cons _ _ _ _ _ _ _ (vd_catT (vd_tup (vl_cons vd_int (vl_cons (vd_sub vd_int vd_int) (vl_cons (vd_sub vd_int vd_int) vl_nil)))) (vd_var 3) (fun z => by cases z) (fun z => by cases z) (Nat.le_of_ble_eq_true rfl)) (@vl_cons _ _ _ _ _ _ _ (vd_catT (vd_tup (vl_cons vd_int (vl_cons vd_int (vl_cons vd_int vl_nil)))) (vd_var 3) (fun z => by cases z) (fun z => by cases z) (Nat.le_of_ble_eq_true rfl)) vl_nil rfl) rfl) rfl) rfl) rfl) rfl) rfl) rfl) rfl) rfl) (Nat.le_of_ble_eq_true rfl)) rfl
  refine @vs_asg _ _ _ _ _ _ _ 4 _ _ (@VE.to _ _ _ _ _ (.list ((oddF f).take 16)) ?_ ?_) nd rfl (.inl rfl) rfl (.inl rfl)
  · exact @VD.is _ _ _ _ _ _ (@vd_catL _ _ _ _ _ _ ((oddF f).take 10) (((oddF f).drop 10).take 6) (vd_var 4) (@VD.is _ _ _ _ _ _ (@vd_lst _ _ _ _ _ _ (@vl_cons _ _ _ _ _ _ _ (vd_catT (vd_tup (vl_cons vd_int (vl_cons vd_int (vl_cons vd_int vl_nil)))) (vd_var 3) (fun z => by cases z) (fun z => by cases z) (Nat.le_of_ble_eq_true rfl)) (@vl_cons _ _ _ _ _ _ _ (vd_catT (vd_tup (vl_cons vd_bl (vl_cons vd_int (vl_cons vd_int vl_nil)))) (vd_var 3) (fun z => by cases z) (fun z => by cases z) (Nat.le_of_ble_eq_true rfl)) (@vl_cons _ _ _ _ _ _ _ (vd_catT (vd_tup (vl_cons vd_int (vl_cons vd_int (vl_cons vd_non vl_nil)))) (vd_var 3) (fun z => by cases z) (fun z => by cases z) (Nat.le_of_ble_eq_true rfl)) (@vl_cons _ _ _ _ _ _ _ (vd_catT (vd_catT (vd_slT (vd_var 2) vo_none (vo_some vd_int) (by show ¬ (HT.sIx 6 0 _ = 0 ∧ HT.sIx 6 6 _ = 6); decide)) (vd_tup (vl_cons vd_str vl_nil)) (fun z => by cases z) (fun z => by cases z) (Nat.le_of_ble_eq_true rfl)) (vd_slT (vd_var 2) (vo_some vd_int) vo_none (by show ¬ (HT.sIx 6 0 _ = 0 ∧ HT.sIx 6 6 _ = 6); decide)) (fun z => by cases z) (fun z => by cases z) (Nat.le_of_ble_eq_true rfl)) (@vl_cons _ _ _ _ _ _ _ (vd_catT (vd_slT (vd_var 2) vo_none (vo_some vd_int) (by show ¬ (HT.sIx 6 0 _ = 0 ∧ HT.sIx 6 6 _ = 6); decide)) (vd_tup (vl_cons vd_str (vl_cons vd_str vl_nil))) (fun z => by cases z) (fun z => by cases z) (Nat.le_of_ble_eq_true rfl)) (@vl_cons _ _ _ _ _ _ _ (vd_catT (vd_slT (vd_var 2) vo_none (vo_some vd_int) (by show ¬ (HT.sIx 6 0 _ = 0 ∧ HT.sIx 6 6 _ = 6); decide)) (vd_tup (vl_cons vd_str vl_nil)) (fun z => by cases z) (fun z => by cases z) (Nat.le_of_ble_eq_true rfl)) vl_nil rfl) rfl) rfl) rfl) rfl) rfl) (Nat.le_of_ble_eq_true rfl)) rfl) (Nat.le_of_ble_eq_true rfl)) rfl
  refine @vs_asg _ _ _ _ _ _ _ 4 _ _ (@VE.to _ _ _ _ _ (.list (oddF f)) ?_ ?_) nd rfl (.inl rfl) rfl (.inl rfl)
  · exact @VD.is _ _ _ _ _ _ (@vd_catL _ _ _ _ _ _ ((oddF f).take 16) ((oddF f).drop 16) (vd_var 4) (@VD.is _ _ _ _ _ _ (@vd_lst _ _ _ _ _ _ (@vl_cons _ _ _ _ _ _ _ (vd_catT (vd_slT (vd_var 2) vo_none (vo_some vd_int) (by show ¬ (HT.sIx 6 0 _ = 0 ∧ HT.sIx 6 6 _ = 6); decide)) (vd_tup (vl_cons vd_int vl_nil)) (fun z => by cases z) (fun z => by cases z) (Nat.le_of_ble_eq_true rfl)) (@vl_cons _ _ _ _ _ _ _ (vd_catT (vd_catT (vd_slT (vd_var 2) vo_none (vo_some vd_int) (by show ¬ (HT.sIx 6 0 _ = 0 ∧ HT.sIx 6 6 _ = 6); decide)) (vd_tup (vl_cons vd_non vl_nil)) (fun z => by cases z) (fun z => by cases z) (Nat.le_of_ble_eq_true rfl)) (vd_slT (vd_var 2) (vo_some vd_int) vo_none (by show ¬ (HT.sIx 6 0 _ = 0 ∧ HT.sIx 6 6 _ = 6); decide)) (fun z => by cases z) (fun z => by cases z) (Nat.le_of_ble_eq_true rfl)) (@vl_cons _ _ _ _ _ _ _ vd_str vl_nil rfl) rfl) rfl) (Nat.le_of_ble_eq_true rfl)) rfl) (Nat.le_of_ble_eq_true rfl)) rfl
  have hol : (oddF f).length = 19 := rfl
  refine vs_asg 5 (ve_ixL (VE.to (vd_var 4) (ve_taken 1 hF D__law_taken hr (by decide) (vd_len T.m_len (vd_var 4) rfl) (by rw [hol]; decide) (by rw [hol]; decide) fun i h1 h2 => ?_))) nd
  obtain ⟨bad, hd, _, hm⟩ := atI_int (xs := oddF f) h1 h2
  refine ⟨_, _, _, rfl, rfl, hd, ?_⟩
  obtain ⟨fpre, fbad⟩ := odd_fmt hm
  clear hd hm h1 h2
  show VS _ _ _ [some (.raw (.ref a)), some (.raw (.ref r)), some (.dat (encF f)), some (.dat (.tuple [.str f.mode.s, .str (tinyS f.g), .str (hugeS f.inf)])), some (.dat (.list (oddF f))), some (.dat bad), none, none, none, none, none, none, none] _
  generalize some (Sl.dat (.list (oddF f))) = sodd
  generalize some (Sl.dat (.tuple [.str f.mode.s, .str (tinyS f.g), .str (hugeS f.inf)])) = srest

  refine vs_lams 6 hF hT TB rfl (sc := defScope s_law) rfl (LamEs.one (by decide +kernel) (LamP.no rfl rfl (by intros; rfl)) (LamEs.one (by decide +kernel) (LamP.one "a" _ _ rfl rfl (by intros; exact ⟨_, rfl, fun _ => rfl⟩) rfl) (LamEs.one (by decide +kernel) (LamP.one "b" _ _ rfl rfl (by intros; exact ⟨_, rfl, fun _ => rfl⟩) rfl) (LamEs.one (by decide +kernel) (LamP.one "c" _ _ rfl rfl (by intros; exact ⟨_, rfl, fun _ => rfl⟩) rfl) LamEs.nil)))) (by show _ ≤ 1000; decide) (fun F1 L1 hF1 hT1 hL1 => ?_) nd (hx := .inl rfl)
  refine vs_lamsAdd 6 6 hF1 hT1 hL1 TB rfl (sc := defScope s_law) rfl (LamEs.one (by decide +kernel) (LamP.one "d" _ _ rfl rfl (by intros; exact ⟨_, rfl, fun _ => rfl⟩) rfl) (LamEs.one (by decide +kernel) (LamP.one "e" _ _ rfl rfl (by intros; exact ⟨_, rfl, fun _ => rfl⟩) rfl) (LamEs.one (by decide +kernel) (LamP.one "f" _ _ rfl rfl (by intros; exact ⟨_, rfl, fun _ => rfl⟩) rfl) (LamEs.one (by decide +kernel) (LamP.one "g" _ _ rfl rfl (by intros; exact ⟨_, rfl, fun _ => rfl⟩) rfl) LamEs.nil)))) (Nat.le_of_ble_eq_true rfl) (fun F2 L2 hF2 hT2 hL2 => ?_) nd (hx := .inl rfl)
  refine vs_lamsAdd 6 6 hF2 hT2 hL2 TB rfl (sc := defScope s_law) rfl (LamEs.one (by decide +kernel) (LamP.one "h" _ _ rfl rfl (by intros; exact ⟨_, rfl, fun _ => rfl⟩) rfl) (LamEs.one (by decide +kernel) (LamP.one "i" _ _ rfl rfl (by intros; exact ⟨_, rfl, fun _ => rfl⟩) rfl) (LamEs.one (by decide +kernel) (LamP.one "j" _ _ rfl rfl (by intros; exact ⟨_, rfl, fun _ => rfl⟩) rfl) (LamEs.one (by decide +kernel) (LamP.one "k" _ _ rfl rfl (by intros; exact ⟨_, rfl, fun _ => rfl⟩) rfl) LamEs.nil)))) (Nat.le_of_ble_eq_true rfl) (fun F3 L3 hF3 hT3 hL3 => ?_) nd (hx := .inl rfl)
  refine vs_lamsAdd 6 6 hF3 hT3 hL3 TB rfl (sc := defScope s_law) rfl (LamEs.one (by decide +kernel) (LamP.one "m" _ _ rfl rfl (by intros; exact ⟨_, rfl, fun _ => rfl⟩) rfl) (LamEs.one (by decide +kernel) (LamP.one "n" _ _ rfl rfl (by intros; exact ⟨_, rfl, fun _ => rfl⟩) rfl) (LamEs.one (by decide +kernel) (LamP.one "o" _ _ rfl rfl (by intros; exact ⟨_, rfl, fun _ => rfl⟩) rfl) (LamEs.one (by decide +kernel) (LamP.one "p" _ _ rfl rfl (by intros; exact ⟨_, rfl, fun _ => rfl⟩) rfl) LamEs.nil)))) (Nat.le_of_ble_eq_true rfl) (fun F4 L4 hF4 hT4 hL4 => ?_) nd (hx := .inl rfl)
  refine vs_ifB (t := false) (VB.is (VW.vt (vwb_or (vb_neS (vd_wrL (w := "format") (j := 20) 6 hL4 hr (by decide) eF T.a__law_wrong sc__law_wrong (fun s H g cdv y oe pn hz hf => wrong_suite T (i := 0) (by decide) rfl hu100 eF.c hz hf eF.a.g eF.k gFD kFD gFN kFN gFQ kFQ gFR kFR gFM kFM) (ve_taken 1 hF4 D__law_taken hr (by decide) vd_int (by decide) (by decide) fun i h1 h2 => ⟨i, rfl, h1, h2⟩) (.cons (N := ["script", "row", "form", "rest", "odd", "bad", "works", "one", "far", "a", "b", "rule", "some"]) [] rfl (by decide +kernel) (fun A outer s H E f' c' hr' => vex_call (dff_is_number (P := P) (w := w) (base := base) T eF.a) hr' (by decide) (takes_of rfl rfl rfl rfl) (VA.to (vl_cons (vd_var 5) (vl_cons vd_non vl_nil)) ⟨bad, _, fpre, fbad, rfl⟩) (fun H' h => h)) (.cons (N := ["script", "row", "form", "rest", "odd", "bad", "works", "one", "far", "a", "b", "rule", "some"]) [9] rfl (by decide +kernel) (fun A outer s H E f' c' hr' => vex_call (dff_largest (P := P) (w := w) (base := base) T eF.a) hr' (by decide) (takes_of rfl rfl rfl rfl) (VA.to (vl_cons (vd_var 5) vl_nil) ⟨bad, fpre, fbad, rfl⟩) (fun H' h => h)) (.cons (N := ["script", "row", "form", "rest", "odd", "bad", "works", "one", "far", "a", "b", "rule", "some"]) [10] rfl (by decide +kernel) (fun A outer s H E f' c' hr' => vex_call (dff_smallest (P := P) (w := w) (base := base) T eF.a) hr' (by decide) (takes_of rfl rfl rfl rfl) (VA.to (vl_cons (vd_var 5) vl_nil) ⟨bad, fpre, fbad, rfl⟩) (fun H' h => h)) (.cons (N := ["script", "row", "form", "rest", "odd", "bad", "works", "one", "far", "a", "b", "rule", "some"]) [] rfl (by decide +kernel) (fun A outer s H E f' c' hr' => vex_call (dff_smallest_normal (P := P) (w := w) (base := base) T eF.a) hr' (by decide) (takes_of rfl rfl rfl rfl) (VA.to (vl_cons (vd_var 5) vl_nil) ⟨bad, fpre, fbad, rfl⟩) (fun H' h => h)) (.cons (N := ["script", "row", "form", "rest", "odd", "bad", "works", "one", "far", "a", "b", "rule", "some"]) [] rfl (by decide +kernel) (fun A outer s H E f' c' hr' => vex_call (dff_count_numbers (P := P) (w := w) (base := base) T eF.a) hr' (by decide) (takes_of rfl rfl rfl rfl) (VA.to (vl_cons (vd_var 5) vl_nil) ⟨bad, fpre, fbad, rfl⟩) (fun H' h => h)) (.cons (N := ["script", "row", "form", "rest", "odd", "bad", "works", "one", "far", "a", "b", "rule", "some"]) [] rfl (by decide +kernel) (fun A outer s H E f' c' hr' => vex_call (dff_next_up (P := P) (w := w) (base := base) T eF.a) hr' (by decide) (takes_of rfl rfl rfl rfl) (VA.to (vl_cons (vd_var 5) (vl_cons vd_non vl_nil)) ⟨bad, _, fpre, fbad, rfl⟩) (fun H' h => h)) (.cons (N := ["script", "row", "form", "rest", "odd", "bad", "works", "one", "far", "a", "b", "rule", "some"]) [] rfl (by decide +kernel) (fun A outer s H E f' c' hr' => vex_call (dff_round_to (P := P) (w := w) (base := base) T eF.a) hr' (by decide) (takes_of rfl rfl rfl rfl) (VA.to (vl_cons (vd_var 5) (vl_cons vd_non (vl_cons vd_int vl_nil))) ⟨bad, _, _, fpre, fbad, rfl⟩) (fun H' h => h)) (.cons (N := ["script", "row", "form", "rest", "odd", "bad", "works", "one", "far", "a", "b", "rule", "some"]) [] rfl (by decide +kernel) (fun A outer s H E f' c' hr' => vex_call (dff_add (P := P) (w := w) (base := base) T eF.a) hr' (by decide) (takes_of rfl rfl rfl rfl) (VA.to (vl_cons (vd_var 5) (vl_cons vd_non (vl_cons vd_non vl_nil))) ⟨bad, _, _, fpre, fbad, rfl⟩) (fun H' h => h)) (.cons (N := ["script", "row", "form", "rest", "odd", "bad", "works", "one", "far", "a", "b", "rule", "some"]) [] rfl (by decide +kernel) (fun A outer s H E f' c' hr' => vex_call (dff_subtract (P := P) (w := w) (base := base) T eF.a) hr' (by decide) (takes_of rfl rfl rfl rfl) (VA.to (vl_cons (vd_var 5) (vl_cons vd_int (vl_cons vd_int vl_nil))) ⟨bad, _, _, fpre, fbad, rfl⟩) (fun H' h => h)) (.cons (N := ["script", "row", "form", "rest", "odd", "bad", "works", "one", "far", "a", "b", "rule", "some"]) [] rfl (by decide +kernel) (fun A outer s H E f' c' hr' => vex_call (dff_multiply (P := P) (w := w) (base := base) T eF.a) hr' (by decide) (takes_of rfl rfl rfl rfl) (VA.to (vl_cons (vd_var 5) (vl_cons vd_int (vl_cons vd_int vl_nil))) ⟨bad, _, _, fpre, fbad, rfl⟩) (fun H' h => h)) (.cons (N := ["script", "row", "form", "rest", "odd", "bad", "works", "one", "far", "a", "b", "rule", "some"]) [] rfl (by decide +kernel) (fun A outer s H E f' c' hr' => vex_call (dff_divide (P := P) (w := w) (base := base) T eF.a) hr' (by decide) (takes_of rfl rfl rfl rfl) (VA.to (vl_cons (vd_var 5) (vl_cons vd_int (vl_cons vd_int vl_nil))) ⟨bad, _, _, fpre, fbad, rfl⟩) (fun H' h => h)) (.cons (N := ["script", "row", "form", "rest", "odd", "bad", "works", "one", "far", "a", "b", "rule", "some"]) [] rfl (by decide +kernel) (fun A outer s H E f' c' hr' => vex_call (dff_square_root (P := P) (w := w) (base := base) T eF.a) hr' (by decide) (takes_of rfl rfl rfl rfl) (VA.to (vl_cons (vd_var 5) (vl_cons vd_int vl_nil)) ⟨bad, _, fpre, fbad, rfl⟩) (fun H' h => h)) (.cons (N := ["script", "row", "form", "rest", "odd", "bad", "works", "one", "far", "a", "b", "rule", "some"]) [] rfl (by decide +kernel) (fun A outer s H E f' c' hr' => vex_call (dff_holds_for (P := P) (w := w) (base := base) T eF.a) hr' (by decide) (takes_of rfl rfl rfl rfl) (VA.to (vl_cons (vd_var 5) (vl_cons vd_non (vl_cons vd_non vl_nil))) ⟨bad, _, _, fpre, fbad, rfl⟩) (fun H' h => h)) (.cons (N := ["script", "row", "form", "rest", "odd", "bad", "works", "one", "far", "a", "b", "rule", "some"]) [] rfl (by decide +kernel) (fun A outer s H E f' c' hr' => vex_call (dff_holds (P := P) (w := w) (base := base) T eF.a) hr' (by decide) (takes_of rfl rfl rfl rfl) (VA.to (vl_cons (vd_var 5) (vl_cons vd_non vl_nil)) ⟨bad, _, fpre, fbad, rfl⟩) (fun H' h => h)) (.cons (N := ["script", "row", "form", "rest", "odd", "bad", "works", "one", "far", "a", "b", "rule", "some"]) [] rfl (by decide +kernel) (fun A outer s H E f' c' hr' => vex_call (dff_counterexample (P := P) (w := w) (base := base) T eF.a) hr' (by decide) (takes_of rfl rfl rfl rfl) (VA.to (vl_cons (vd_var 5) (vl_cons vd_non vl_nil)) ⟨bad, _, fpre, fbad, rfl⟩) (fun H' h => h)) (.cons (N := ["script", "row", "form", "rest", "odd", "bad", "works", "one", "far", "a", "b", "rule", "some"]) [] rfl (by decide +kernel) (fun A outer s H E f' c' hr' => vex_call (dff_profile (P := P) (w := w) (base := base) T eF.a) hr' (by decide) (takes_of rfl rfl rfl rfl) (VA.to (vl_cons (vd_var 5) vl_nil) ⟨bad, fpre, fbad, rfl⟩) (fun H' h => h)) LX.nil))))))))))))))))) vd_str) fun _ => vwb_or (vb_isnotB (vd_call D_is_format hr (by decide) (vl_cons (vd_var 5) vl_nil) ⟨bad, fpre, rfl, rfl⟩) vd_bl) fun _ => vwb_or1 (vb_isnotB (vd_call D_is_format hr (by decide) (vl_cons (vd_var 2) vl_nil) ⟨_, (fmtB_enc ok).2, rfl, rfl⟩) vd_bl))) (by rw [fbad, (fmtB_enc ok).1]; decide)) (fun c => by cases c) (fun _ => vs_nil ?_)
  clear fpre fbad
  refine @vs_asg _ _ _ _ _ _ _ 4 _ _ (@VE.to _ _ _ _ _ (.list oddDy) ?_ ?_) nd rfl (.inl rfl) rfl (.inl rfl)
  · exact @VD.is _ _ _ _ _ _ (@vd_lst _ _ _ _ _ _ (@vl_cons _ _ _ _ _ _ _ vd_non (@vl_cons _ _ _ _ _ _ _ (vd_tup vl_nil) (@vl_cons _ _ _ _ _ _ _ (vd_tup (vl_cons vd_int vl_nil)) (@vl_cons _ _ _ _ _ _ _ (vd_lst (vl_cons vd_int (vl_cons vd_int vl_nil))) (@vl_cons _ _ _ _ _ _ _ (vd_tup (vl_cons vd_int (vl_cons vd_int vl_nil))) (@vl_cons _ _ _ _ _ _ _ (vd_tup (vl_cons vd_int (vl_cons vd_int vl_nil))) (@vl_cons _ _ _ _ _ _ _ (vd_tup (vl_cons vd_int (vl_cons vd_int vl_nil))) (@vl_cons _ _ _ _ _ _ _ (vd_tup (vl_cons vd_int (vl_cons vd_int vl_nil))) (@vl_cons _ _ _ _ _ _ _ (vd_tup (vl_cons vd_int (vl_cons (vd_neg vd_int) vl_nil))) (@vl_cons _ _ _ _ _ _ _ (vd_tup (vl_cons (vd_add (vd_pow vd_int vd_int ⟨by decide, by decide, by decide⟩) vd_int) (vl_cons vd_int vl_nil))) (@vl_cons _ _ _ _ _ _ _ (vd_tup (vl_cons vd_bl (vl_cons vd_int vl_nil))) (@vl_cons _ _ _ _ _ _ _ (vd_tup (vl_cons vd_int (vl_cons vd_bl vl_nil))) (@vl_cons _ _ _ _ _ _ _ (vd_tup (vl_cons vd_int (vl_cons vd_int (vl_cons vd_int vl_nil)))) (@vl_cons _ _ _ _ _ _ _ vd_str (@vl_cons _ _ _ _ _ _ _ vd_int (@vl_cons _ _ _ _ _ _ _ (vd_tup (vl_cons vd_int (vl_cons vd_non vl_nil))) vl_nil rfl) rfl) rfl) rfl) rfl) rfl) rfl) rfl) rfl) rfl) rfl) rfl) rfl) rfl) rfl) rfl) (Nat.le_of_ble_eq_true rfl)) rfl
  refine vs_asg 5 (ve_ixL (VE.to (vd_var 4) (ve_taken 1 hF4 D__law_taken hr (by decide) vd_int (by decide) (by decide) fun i h1 h2 => ?_))) nd
  obtain ⟨bad2, hd, _, hm⟩ := atI_int (xs := oddDy) h1 h2
  refine ⟨_, _, _, rfl, rfl, hd, ?_⟩
  have hdy := odd_dy hm
  clear hd hm h1 h2
  show VS _ _ _ [some (.raw (.ref a)), some (.raw (.ref r)), some (.dat (encF f)), srest, some (.dat (.list oddDy)), some (.dat bad2), some (.raw (.ref L4)), none, none, none, none, none, none] _
  generalize some (Sl.dat (.list oddDy)) = sodd2
  generalize some (Sl.raw (.ref L4)) = swk
  refine vs_ifB (t := false) (VB.is (VW.vt (vwb_or (vb_neS (vd_wr (w := "dyadic") (j := 20) (sc := defScope s_law) hT4 TB rfl hr (by decide) rfl (by decide +kernel) eD T.a__law_wrong sc__law_wrong (fun s H g cdv y oe pn hz hf => wrong_suite T (i := 1) (by decide) rfl hu100 eD.c hz hf gDF kDF eD.a.g eD.k gDN kDN gDQ kDQ gDR kDR gDM kDM) (fun A outer s H E f' c' hr' => vex_call (dfd_is_number (P := P) (w := w) (base := base) T eD.a) hr' (by decide) (takes_of rfl rfl rfl rfl) (VA.to (vl_cons (vd_var 2) (vl_cons (vd_var 5) vl_nil)) ⟨f, bad2, ok, hdy, rfl⟩) (fun H' h => h))) vd_str) fun _ => vwb_or1 (vb_isnotB (vd_call D_is_dyadic hr (by decide) (vl_cons (vd_var 5) vl_nil) ⟨bad2, rfl, rfl⟩) vd_bl))) (by rw [hdy]; decide)) (fun c => by cases c) (fun _ => vs_nil ?_)
  refine vs_asg 7 (ve_call D__law_value hr (by decide) <| va_consD (vd_var 2) <| va_cons <| ve_draw 1 hF4 D__law_number hr (by decide) <| VA.to (vl_cons (vd_var 2) vl_nil) ⟨_, ⟨f, ok, rfl, rfl⟩, fun d ⟨u, hu, hd⟩ => va_nil ⟨encV f (.fin u), ⟨f, .fin u, ok, fun v e => by cases e; exact pow_mono (isNum_lt ok hu) (by decide), by rw [hd]; rfl, rfl⟩, ?_⟩⟩) nd
  obtain ⟨n1, k1, en⟩ : ∃ n k : Int, encV f (.fin u) = .tuple [.int n, .int k] := val_pair u
  have h1ok : hasB f (encV f (.fin u)) = true := hasB_val ok hu
  rw [en] at h1ok ⊢
  show VS _ _ _ [some (.raw (.ref a)), some (.raw (.ref r)), some (.dat (encF f)), srest, sodd2, some (.dat bad2), swk, some (.dat (.tuple [.int n1, .int k1])), none, none, none, none, none] _
  refine vs_asg 8 (ve_pick 1 hF4 D__law_pick hr (by decide) (VE.to (vd_lst (vl_cons (vd_var 5) (vl_cons (vd_tup (vl_cons vd_int (vl_cons (vd_sub (vd_ixT (ds := [.int f.p, .int f.low, .int (f.low + f.e), .str f.mode.s, .str (tinyS f.g), .str (hugeS f.inf)]) (vd_var 2) vd_int rfl) vd_int) vl_nil))) (vl_cons (vd_tup (vl_cons (vd_add (vd_mul vd_int (vd_call D__law_two hr (by decide) (vl_cons (vd_ixT (ds := [.int f.p, .int f.low, .int (f.low + f.e), .str f.mode.s, .str (tinyS f.g), .str (hugeS f.inf)]) (vd_var 2) vd_int rfl) vl_nil) ⟨f.p, by omega, by have := ok.p10; omega, rfl, rfl⟩) (mulx_ok (a := 2) (b := 40) (by decide) (two_small ok) (by decide))) vd_int) (vl_cons (vd_ixT (ds := [.int f.p, .int f.low, .int (f.low + f.e), .str f.mode.s, .str (tinyS f.g), .str (hugeS f.inf)]) (vd_var 2) vd_int rfl) vl_nil))) (vl_cons (vd_tup (vl_cons vd_int (vl_cons (vd_add (vd_add (vd_ixT (ds := [.int f.p, .int f.low, .int (f.low + f.e), .str f.mode.s, .str (tinyS f.g), .str (hugeS f.inf)]) (vd_var 2) vd_int rfl) (vd_ixT (ds := [.int f.p, .int f.low, .int (f.low + f.e), .str f.mode.s, .str (tinyS f.g), .str (hugeS f.inf)]) (vd_var 2) vd_int rfl)) vd_int) vl_nil))) (vl_cons vd_str vl_nil)))))) ⟨_, rfl, by simp, by simp, fun far hfar => ?_⟩)) nd
  have hbad : hasB f far = false := by
    simp only [List.mem_cons, List.not_mem_nil, or_false] at hfar
    rcases hfar with rfl | rfl | rfl | rfl | rfl
    · exact far_dy hdy
    · exact far_low
    · exact far_odd ok
    · exact far_top ok
    · exact far_dy rfl
  clear hfar
  show VS _ _ _ [some (.raw (.ref a)), some (.raw (.ref r)), some (.dat (encF f)), srest, sodd2, some (.dat bad2), swk, some (.dat (.tuple [.int n1, .int k1])), some (.dat far), none, none, none, none] _
  generalize some (Sl.dat bad2) = sbad2
  refine vs_lams 6 hF4 hT4 TB rfl (sc := defScope s_law) rfl (LamEs.one (by decide +kernel) (LamP.no rfl rfl (by intros; rfl)) (LamEs.one (by decide +kernel) (LamP.one "a" _ _ rfl rfl (by intros; exact ⟨_, rfl, fun _ => rfl⟩) rfl) (LamEs.one (by decide +kernel) (LamP.one "b" _ _ rfl rfl (by intros; exact ⟨_, rfl, fun _ => rfl⟩) rfl) (LamEs.one (by decide +kernel) (LamP.one "c" _ _ rfl rfl (by intros; exact ⟨_, rfl, fun _ => rfl⟩) rfl) LamEs.nil)))) (by show _ ≤ 1000; decide) (fun F5 L5 hF5 hT5 hL5 => ?_) nd (hx := .inl rfl)
  refine vs_lamsAdd 6 6 hF5 hT5 hL5 TB rfl (sc := defScope s_law) rfl (LamEs.one (by decide +kernel) (LamP.one "d" _ _ rfl rfl (by intros; exact ⟨_, rfl, fun _ => rfl⟩) rfl) (LamEs.one (by decide +kernel) (LamP.one "e" _ _ rfl rfl (by intros; exact ⟨_, rfl, fun _ => rfl⟩) rfl) (LamEs.one (by decide +kernel) (LamP.one "f" _ _ rfl rfl (by intros; exact ⟨_, rfl, fun _ => rfl⟩) rfl) (LamEs.one (by decide +kernel) (LamP.one "g" _ _ rfl rfl (by intros; exact ⟨_, rfl, fun _ => rfl⟩) rfl) LamEs.nil)))) (Nat.le_of_ble_eq_true rfl) (fun F6 L6 hF6 hT6 hL6 => ?_) nd (hx := .inl rfl)
  refine vs_ifB (t := false) (VB.is (vb_neS (vd_wrL (w := "number") (j := 20) 6 hL6 hr (by decide) eN T.a__law_wrong sc__law_wrong (fun s H g cdv y oe pn hz hf => wrong_suite T (i := 2) (by decide) rfl hu100 eN.c hz hf gNF kNF gND kND eN.a.g eN.k gNQ kNQ gNR kNR gNM kNM) (ve_taken 1 hF6 D__law_taken hr (by decide) vd_int (by decide) (by decide) fun i h1 h2 => ⟨i, rfl, h1, h2⟩) (.cons (N := ["script", "row", "form", "rest", "odd", "bad", "works", "one", "far", "a", "b", "rule", "some"]) [] rfl (by decide +kernel) (fun A outer s H E f' c' hr' => vex_call (dfn_next_up (P := P) (w := w) (base := base) T eN.a) hr' (by decide) (takes_of rfl rfl rfl rfl) (VA.to (vl_cons (vd_var 2) (vl_cons (vd_var 8) vl_nil)) ⟨f, _, ok, hbad, rfl⟩) (fun H' h => h)) (.cons (N := ["script", "row", "form", "rest", "odd", "bad", "works", "one", "far", "a", "b", "rule", "some"]) [9] rfl (by decide +kernel) (fun A outer s H E f' c' hr' => vex_call (dfn_add (P := P) (w := w) (base := base) T eN.a) hr' (by decide) (takes_of rfl rfl rfl rfl) (VA.to (vl_cons (vd_var 2) (vl_cons (vd_var 8) (vl_cons vd_non vl_nil))) ⟨f, _, _, ok, .inl hbad, rfl⟩) (fun H' h => h)) (.cons (N := ["script", "row", "form", "rest", "odd", "bad", "works", "one", "far", "a", "b", "rule", "some"]) [10] rfl (by decide +kernel) (fun A outer s H E f' c' hr' => vex_call (dfn_add (P := P) (w := w) (base := base) T eN.a) hr' (by decide) (takes_of rfl rfl rfl rfl) (VA.to (vl_cons (vd_var 2) (vl_cons (vd_var 7) (vl_cons (vd_var 8) vl_nil))) ⟨f, _, _, ok, .inr ⟨h1ok, hbad⟩, rfl⟩) (fun H' h => h)) (.cons (N := ["script", "row", "form", "rest", "odd", "bad", "works", "one", "far", "a", "b", "rule", "some"]) [] rfl (by decide +kernel) (fun A outer s H E f' c' hr' => vex_call (dfn_subtract (P := P) (w := w) (base := base) T eN.a) hr' (by decide) (takes_of rfl rfl rfl rfl) (VA.to (vl_cons (vd_var 2) (vl_cons (vd_var 8) (vl_cons vd_int vl_nil))) ⟨f, _, _, ok, .inl hbad, rfl⟩) (fun H' h => h)) (.cons (N := ["script", "row", "form", "rest", "odd", "bad", "works", "one", "far", "a", "b", "rule", "some"]) [] rfl (by decide +kernel) (fun A outer s H E f' c' hr' => vex_call (dfn_multiply (P := P) (w := w) (base := base) T eN.a) hr' (by decide) (takes_of rfl rfl rfl rfl) (VA.to (vl_cons (vd_var 2) (vl_cons (vd_var 7) (vl_cons (vd_var 8) vl_nil))) ⟨f, _, _, ok, .inr ⟨h1ok, hbad⟩, rfl⟩) (fun H' h => h)) (.cons (N := ["script", "row", "form", "rest", "odd", "bad", "works", "one", "far", "a", "b", "rule", "some"]) [] rfl (by decide +kernel) (fun A outer s H E f' c' hr' => vex_call (dfn_divide (P := P) (w := w) (base := base) T eN.a) hr' (by decide) (takes_of rfl rfl rfl rfl) (VA.to (vl_cons (vd_var 2) (vl_cons (vd_var 8) (vl_cons (vd_tup (vl_cons vd_int (vl_cons vd_int vl_nil))) vl_nil))) ⟨f, _, _, ok, .inl hbad, rfl⟩) (fun H' h => h)) (.cons (N := ["script", "row", "form", "rest", "odd", "bad", "works", "one", "far", "a", "b", "rule", "some"]) [] rfl (by decide +kernel) (fun A outer s H E f' c' hr' => vex_call (dfn_divide (P := P) (w := w) (base := base) T eN.a) hr' (by decide) (takes_of rfl rfl rfl rfl) (VA.to (vl_cons (vd_var 2) (vl_cons (vd_var 7) (vl_cons (vd_var 8) vl_nil))) ⟨f, _, _, ok, .inr ⟨h1ok, hbad⟩, rfl⟩) (fun H' h => h)) (.cons (N := ["script", "row", "form", "rest", "odd", "bad", "works", "one", "far", "a", "b", "rule", "some"]) [] rfl (by decide +kernel) (fun A outer s H E f' c' hr' => vex_call (dfn_square_root (P := P) (w := w) (base := base) T eN.a) hr' (by decide) (takes_of rfl rfl rfl rfl) (VA.to (vl_cons (vd_var 2) (vl_cons (vd_var 8) vl_nil)) ⟨f, _, ok, hbad, rfl⟩) (fun H' h => h)) LX.nil))))))))) vd_str) (by decide)) (fun c => by cases c) (fun _ => vs_nil ?_)
  refine @vs_asg _ _ _ _ _ _ _ 4 _ _ (@VE.to _ _ _ _ _ (.list (oddFr.map fun x => .tuple [x.1, x.2])) ?_ ?_) nd rfl (.inl rfl) rfl (.inl rfl)
  · exact @VD.is _ _ _ _ _ _ (@vd_lst _ _ _ _ _ _ (@vl_cons _ _ _ _ _ _ _ (vd_tup (vl_cons vd_non (vl_cons vd_int vl_nil))) (@vl_cons _ _ _ _ _ _ _ (vd_tup (vl_cons vd_int (vl_cons vd_int vl_nil))) (@vl_cons _ _ _ _ _ _ _ (vd_tup (vl_cons vd_int (vl_cons (vd_neg vd_int) vl_nil))) (@vl_cons _ _ _ _ _ _ _ (vd_tup (vl_cons vd_int (vl_cons vd_non vl_nil))) (@vl_cons _ _ _ _ _ _ _ (vd_tup (vl_cons (vd_add (vd_pow vd_int vd_int ⟨by decide, by decide, by decide⟩) vd_int) (vl_cons vd_int vl_nil))) (@vl_cons _ _ _ _ _ _ _ (vd_tup (vl_cons vd_int (vl_cons (vd_add (vd_pow vd_int vd_int ⟨by decide, by decide, by decide⟩) vd_int) vl_nil))) (@vl_cons _ _ _ _ _ _ _ (vd_tup (vl_cons vd_bl (vl_cons vd_int vl_nil))) (@vl_cons _ _ _ _ _ _ _ (vd_tup (vl_cons vd_int (vl_cons vd_bl vl_nil))) (@vl_cons _ _ _ _ _ _ _ (vd_tup (vl_cons vd_str (vl_cons vd_int vl_nil))) vl_nil rfl) rfl) rfl) rfl) rfl) rfl) rfl) rfl) rfl) (Nat.le_of_ble_eq_true rfl)) rfl
  refine vs_unp (pn_cons 9 (pn_cons 10 pn_nil nd) nd) (ve_ixL (VE.to (vd_var 4) (ve_taken 1 hF6 D__law_taken hr (by decide) vd_int (by decide) (by decide) fun i h1 h2 => ?_)))
  obtain ⟨d, hd, _, hm⟩ := atI_int (xs := oddFr.map fun x => PyData.tuple [x.1, x.2]) h1 h2
  obtain ⟨⟨qa, qb⟩, hx2, rfl⟩ := List.mem_map.mp hm
  refine ⟨_, _, _, rfl, rfl, hd, _, rfl, rfl, ?_⟩
  have hfr := odd_fr hx2
  clear hd hm h1 h2 hx2
  show VS _ _ _ [some (.raw (.ref a)), some (.raw (.ref r)), some (.dat (encF f)), srest, some (.dat (.list (oddFr.map fun x => .tuple [x.1, x.2]))), sbad2, some (.raw (.ref L6)), some (.dat (.tuple [.int n1, .int k1])), some (.dat far), some (.dat qa), some (.dat qb), none, none] _
  generalize some (Sl.dat (.list (oddFr.map fun x => PyData.tuple [x.1, x.2]))) = sodd3
  generalize some (Sl.raw (.ref L6)) = swk6
  refine vs_ifB (t := false) (VB.is (vb_neS (vd_wr (w := "fraction") (j := 20) (sc := defScope s_law) hT6 TB rfl hr (by decide) rfl (by decide +kernel) eQ T.a__law_wrong sc__law_wrong (fun s H g cdv y oe pn hz hf => wrong_suite T (i := 3) (by decide) rfl hu100 eQ.c hz hf gQF kQF gQD kQD gQN kQN eQ.a.g eQ.k gQR kQR gQM kQM) (fun A outer s H E f' c' hr' => vex_call (dfq_round_to (P := P) (w := w) (base := base) T eQ.a) hr' (by decide) (takes_of rfl rfl rfl rfl) (VA.to (vl_cons (vd_var 2) (vl_cons (vd_var 9) (vl_cons (vd_var 10) vl_nil))) ⟨f, qa, qb, ok, hfr, rfl⟩) (fun H' h => h))) vd_str) (by decide)) (fun c => by cases c) (fun _ => vs_nil ?_)
  refine vs_asg 5 (ve_pick 1 hF6 D__law_pick hr (by decide) (VE.to (vd_lst (vl_cons vd_non (vl_cons vd_str (vl_cons vd_str (vl_cons vd_str (vl_cons vd_int (vl_cons (vd_tup (vl_cons vd_str vl_nil)) (vl_cons vd_str vl_nil)))))))) ⟨_, rfl, by simp, by simp, fun bad3 hbad3 => ?_⟩)) nd
  have hno := odd_rules hbad3
  clear hbad3
  show VS _ _ _ [some (.raw (.ref a)), some (.raw (.ref r)), some (.dat (encF f)), srest, sodd3, some (.dat bad3), swk6, some (.dat (.tuple [.int n1, .int k1])), some (.dat far), some (.dat qa), some (.dat qb), none, none] _
  refine vs_lams 6 hF6 hT6 TB rfl (sc := defScope s_law) rfl (LamEs.one (by decide +kernel) (LamP.no rfl rfl (by intros; rfl)) (LamEs.one (by decide +kernel) (LamP.one "a" _ _ rfl rfl (by intros; exact ⟨_, rfl, fun _ => rfl⟩) rfl) (LamEs.one (by decide +kernel) (LamP.one "b" _ _ rfl rfl (by intros; exact ⟨_, rfl, fun _ => rfl⟩) rfl) (LamEs.one (by decide +kernel) (LamP.one "c" _ _ rfl rfl (by intros; exact ⟨_, rfl, fun _ => rfl⟩) rfl) LamEs.nil)))) (by show _ ≤ 1000; decide) (fun F7 L7 hF7 hT7 hL7 => ?_) nd (hx := .inl rfl)
  refine vs_lamsAdd 6 6 hF7 hT7 hL7 TB rfl (sc := defScope s_law) rfl (LamEs.one (by decide +kernel) (LamP.one "d" _ _ rfl rfl (by intros; exact ⟨_, rfl, fun _ => rfl⟩) rfl) (LamEs.one (by decide +kernel) (LamP.one "e" _ _ rfl rfl (by intros; exact ⟨_, rfl, fun _ => rfl⟩) rfl) (LamEs.one (by decide +kernel) (LamP.one "f" _ _ rfl rfl (by intros; exact ⟨_, rfl, fun _ => rfl⟩) rfl) (LamEs.one (by decide +kernel) (LamP.one "g" _ _ rfl rfl (by intros; exact ⟨_, rfl, fun _ => rfl⟩) rfl) LamEs.nil)))) (Nat.le_of_ble_eq_true rfl) (fun F8 L8 hF8 hT8 hL8 => ?_) nd (hx := .inl rfl)
  refine vs_ifB (t := false) (VB.is (vb_neS (vd_wrL (w := "rule") (j := 20) 6 hL8 hr (by decide) eR T.a__law_wrong sc__law_wrong (fun s H g cdv y oe pn hz hf => wrong_suite T (i := 4) (by decide) rfl hu100 eR.c hz hf gRF kRF gRD kRD gRN kRN gRQ kRQ eR.a.g eR.k gRM kRM) (ve_taken 1 hF8 D__law_taken hr (by decide) vd_int (by decide) (by decide) fun i h1 h2 => ⟨i, rfl, h1, h2⟩) (.cons (N := ["script", "row", "form", "rest", "odd", "bad", "works", "one", "far", "a", "b", "rule", "some"]) [] rfl (by decide +kernel) (fun A outer s H E f' c' hr' => vex_call (dfr_arity (P := P) (w := w) (base := base) T eR.a) hr' (by decide) (takes_of rfl rfl rfl rfl) (VA.to (vl_cons (vd_var 5) vl_nil) ⟨_, hno, rfl⟩) (fun H' h => h)) (.cons (N := ["script", "row", "form", "rest", "odd", "bad", "works", "one", "far", "a", "b", "rule", "some"]) [9] rfl (by decide +kernel) (fun A outer s H E f' c' hr' => vex_call (dfr_holds_for (P := P) (w := w) (base := base) T eR.a) hr' (by decide) (takes_of rfl rfl rfl rfl) (VA.to (vl_cons (vd_var 2) (vl_cons (vd_var 5) (vl_cons vd_non vl_nil))) ⟨f, _, _, ok, hno, rfl⟩) (fun H' h => h)) (.cons (N := ["script", "row", "form", "rest", "odd", "bad", "works", "one", "far", "a", "b", "rule", "some"]) [10] rfl (by decide +kernel) (fun A outer s H E f' c' hr' => vex_call (dfr_holds (P := P) (w := w) (base := base) T eR.a) hr' (by decide) (takes_of rfl rfl rfl rfl) (VA.to (vl_cons (vd_var 2) (vl_cons (vd_var 5) vl_nil)) ⟨f, _, ok, hno, rfl⟩) (fun H' h => h)) (.cons (N := ["script", "row", "form", "rest", "odd", "bad", "works", "one", "far", "a", "b", "rule", "some"]) [] rfl (by decide +kernel) (fun A outer s H E f' c' hr' => vex_call (dfr_counterexample (P := P) (w := w) (base := base) T eR.a) hr' (by decide) (takes_of rfl rfl rfl rfl) (VA.to (vl_cons (vd_var 2) (vl_cons (vd_var 5) vl_nil)) ⟨f, _, ok, hno, rfl⟩) (fun H' h => h)) (.cons (N := ["script", "row", "form", "rest", "odd", "bad", "works", "one", "far", "a", "b", "rule", "some"]) [] rfl (by decide +kernel) (fun A outer s H E f' c' hr' => vex_call (dfr_implies (P := P) (w := w) (base := base) T eR.a) hr' (by decide) (takes_of rfl rfl rfl rfl) (VA.to (vl_cons (vd_var 5) (vl_cons vd_non vl_nil)) ⟨_, _, .inl hno, rfl⟩) (fun H' h => h)) (.cons (N := ["script", "row", "form", "rest", "odd", "bad", "works", "one", "far", "a", "b", "rule", "some"]) [] rfl (by decide +kernel) (fun A outer s H E f' c' hr' => vex_call (dfr_implies (P := P) (w := w) (base := base) T eR.a) hr' (by decide) (takes_of rfl rfl rfl rfl) (VA.to (vl_cons vd_str (vl_cons (vd_var 5) vl_nil)) ⟨_, _, .inr ⟨⟨.aver, rfl⟩, hno⟩, rfl⟩) (fun H' h => h)) (.cons (N := ["script", "row", "form", "rest", "odd", "bad", "works", "one", "far", "a", "b", "rule", "some"]) [] rfl (by decide +kernel) (fun A outer s H E f' c' hr' => vex_call (dfr_parting (P := P) (w := w) (base := base) T eR.a) hr' (by decide) (takes_of rfl rfl rfl rfl) (VA.to (vl_cons (vd_var 5) (vl_cons vd_non vl_nil)) ⟨_, _, .inl hno, rfl⟩) (fun H' h => h)) (.cons (N := ["script", "row", "form", "rest", "odd", "bad", "works", "one", "far", "a", "b", "rule", "some"]) [] rfl (by decide +kernel) (fun A outer s H E f' c' hr' => vex_call (dfr_parting (P := P) (w := w) (base := base) T eR.a) hr' (by decide) (takes_of rfl rfl rfl rfl) (VA.to (vl_cons vd_str (vl_cons (vd_var 5) vl_nil)) ⟨_, _, .inr ⟨⟨.third, rfl⟩, hno⟩, rfl⟩) (fun H' h => h)) LX.nil))))))))) vd_str) (by decide)) (fun c => by cases c) (fun _ => vs_nil ?_)
  refine vs_asg 11 (ve_pick 1 hF8 D__law_pick hr (by decide) (VE.to (vd_call0 D__law_rules hr (by decide) ⟨rfl, rfl⟩) ⟨_, rfl, by simp [Rule.all], by simp [Rule.all], fun x hx => ?_⟩)) nd
  obtain ⟨q, _, rfl⟩ := List.mem_map.mp hx
  clear hx
  have a1 : 1 ≤ (q.ar : Int) ∧ (q.ar : Int) ≤ 3 := by cases q <;> decide
  refine vs_asg 12 (VE.to (vd_timesT (vd_tup (vl_cons (vd_var 7) vl_nil)) (vd_call D__law_many hr (by decide) (vl_cons (vd_var 11) vl_nil) ⟨q, rfl, rfl⟩) (fun z => by cases z) a1.1 (by omega) (Nat.le_of_ble_eq_true rfl)) ?_) nd
  generalize hO : PyData.tuple [.int n1, .int k1] = one at *
  have es : (List.replicate (q.ar : Int).toNat [one]).flatten = List.replicate q.ar one := by
    rw [Int.toNat_natCast]; generalize q.ar = m; induction m with
    | zero => rfl
    | succ m ih => rw [List.replicate_succ, List.flatten_cons, ih]; rfl
  rw [es]
  show VS _ _ _ [some (.raw (.ref a)), some (.raw (.ref r)), some (.dat (encF f)), srest, sodd3, some (.dat bad3), some (.raw (.ref L8)), some (.dat one), some (.dat far), some (.dat qa), some (.dat qb), some (.dat (.str q.s)), some (.dat (.tuple (List.replicate q.ar one)))] _
  have ln : (List.replicate q.ar one).length = q.ar := List.length_replicate
  have lne : List.replicate q.ar one ≠ [] := fun z => by rw [z] at ln; simp at ln; omega
  have ef : (List.replicate (q.ar : Int).toNat [far]).flatten = List.replicate q.ar far := by
    rw [Int.toNat_natCast]; generalize q.ar = m; induction m with
    | zero => rfl
    | succ m ih => rw [List.replicate_succ, List.flatten_cons, ih]; rfl
  have fin4 : ∀ x ∈ [PyData.none, .tuple [], .list (List.replicate q.ar one), .tuple (List.replicate q.ar one ++ [one]), .tuple (List.replicate q.ar far), one, .tuple (List.replicate (q.ar - 1) one ++ [.none])], numsB f x q.ar = false := fun x hx => by
    simp only [List.mem_cons, List.not_mem_nil, or_false] at hx
    rcases hx with rfl | rfl | rfl | rfl | rfl | rfl | rfl
    · rfl
    · exact nums_len (by show 0 ≠ q.ar; omega)
    · rfl
    · exact nums_len (by rw [List.length_append, ln]; show q.ar + 1 ≠ q.ar; omega)
    · exact nums_no (x := far) (List.mem_replicate.mpr ⟨by omega, rfl⟩) hbad
    · rw [← hO]; exact nums_no (x := .int n1) (by simp) rfl
    · exact nums_no (x := .none) (by simp) rfl
  refine vs_asg 5 (ve_pick 1 hF8 D__law_pick hr (by decide) (VE.to (vd_lst (vl_cons vd_non (vl_cons (vd_tup vl_nil) (vl_cons (vd_listOf T.m_list (vd_var 12) rfl) (vl_cons (vd_catT (vd_var 12) (vd_tup (vl_cons (vd_var 7) vl_nil)) lne (fun z => by cases z) (by rw [ln]; show q.ar + 1 ≤ 100000; omega)) (vl_cons (VD.is (d' := .tuple (List.replicate q.ar far)) (vd_timesT (vd_tup (vl_cons (vd_var 8) vl_nil)) (vd_call D__law_many hr (by decide) (vl_cons (vd_var 11) vl_nil) ⟨q, rfl, rfl⟩) (fun z => by cases z) a1.1 (by omega) (Nat.le_of_ble_eq_true rfl)) (congrArg PyData.tuple ef)) (vl_cons (vd_var 7) (vl_cons (vd_lastN (n := q.ar) (one := one) (by omega) (by omega) (vd_slT (ds := List.replicate q.ar one) (vd_var 12) vo_none (vo_some (vd_neg vd_int)) (by rw [ln]; exact cut_last (by omega) (by omega))) (vd_tup (vl_cons vd_non vl_nil))) vl_nil)))))))) ⟨_, rfl, by simp, by simp, fun b4 hb4 => ?_⟩)) nd
  have hn4 := fin4 b4 hb4
  clear fin4 hb4 ef es
  refine vs_ret (VD.is (vd_eqS (vd_wr (w := "numbers") (j := 20) (sc := defScope s_law) hT8 TB rfl hr (by decide) rfl (by decide +kernel) eM T.a__law_wrong sc__law_wrong (fun s H g cdv y oe pn hz hf => wrong_suite T (i := 5) (by decide) rfl hu100 eM.c hz hf gMF kMF gMD kMD gMN kMN gMQ kMQ gMR kMR eM.a.g eM.k) (fun A outer s H E f' c' hr' => vex_call (dfm_holds_for (P := P) (w := w) (base := base) T eM.a) hr' (by decide) (takes_of rfl rfl rfl rfl) (VA.to (vl_cons (vd_var 2) (vl_cons (vd_var 11) (vl_cons (vd_var 5) vl_nil))) ⟨f, q, b4, ok, hn4, rfl⟩) (fun H' h => h))) vd_str) rfl)
end
end T
namespace T
open PySem PySem.Spec PyProof.Rows L2 Dl Fx
theorem all_mk {l : PySem.W.OpenLaw} {w : World} {K : PySem.W.Frag} {h : Heap} {mg : Str → Option Value} {fa f1 cc tb : Addr} (X : K.In h) (G : h.Ns mainGlobals mg) (hfa : mg "law" = some (.ref fa)) (T : Txt w K mg) {od an : Option Addr} {sl : Array (Option Value)} {oc kV dc pm cd ct : Value}
    (a : PySem.W.nsIn K mainGlobals "law" = some (some (.ref f1))) (lk : K.lookup f1 = some ⟨oc, od, .func (PySem.W.fnOf "law" "law" (defArgs s_law) (defBody s_law) (defScope s_law) .none kV dc pm an cd ct), sl⟩) (c : PySem.W.codeIn K cd "law" = true) (k : PySem.W.keepIn K (.ref f1) = true) (z : cd = .ref cc) :
    ∃ fd : FuncData, (∀ (s : Shared) (v : Value), BindsTo s fd ⟨[v], []⟩ [("script", v)]) ∧ ∀ base : Heap, K.In base → base.Ns mainGlobals mg → LamX.TabB base mg cc tb → FnOk l.prog w K mg base CX0 30 fa fd ["script"] (Dl.spLawT K tb) := by
  have e := hfa.symm.trans (PySem.W.mg_of X G a)
  cases e
  exact ⟨_, fun s v => .of_eq rfl, fun base _ _ tb => ok_law T (fun_mk (st := s_law) lk c k) z tb⟩
end T
open PySem PySem.W PyProof.Rows
set_option maxRecDepth 100000 in
set_option maxHeartbeats 0 in
theorem PySem.Challenge.cw_rulesheld_k08_whole_refused_holds : PySem.Challenge.rw_rulesheld_k08_whole_refused.Holds := by
  refine h8 ?_
  k_fill
  refine' Dl.walk_own (l := PySem.Challenge.rw_rulesheld_k08_whole_refused) (n := 63) (k := 30) rfl (by decide) rfl ⟨rfl, by decide, by decide⟩ (fun w h Y => PySem.W.km_in_of Y) rfl ?ht ?nT ?F; (case ht => (intro w; refine' Dl.tabIn_of ?h1 ?h2 ?h3 ?h4 ?h5; (case h1 => k_is); (case h2 => k_is); (case h3 => rfl); (case h4 => k_is); (case h5 => rfl))); (case nT => (intro w; rfl))
  case F =>
    intro w mg fa h KX G hmg
    refine' T.all_mk KX G hmg ?tx ?A0 ?L0 ?C0 ?K0 ?Z0
    case tx =>
      refine' ⟨?a_to_units, ?a_normal_units, ?a_largest_units, ?a_are_number, ?a_is_within, ?a_is_format, ?a_is_dyadic, ?a_is_number, ?a_largest, ?a_smallest_normal, ?a_smallest, ?a_count_numbers, ?a_next_up, ?a_require_format, ?a_require_number, ?a_has_number, ?a__stands_for_number, ?a_arity, ?a_holds_for, ?a_require_rule, ?a__are_numbers, ?a_holds, ?a_counterexample, ?a_round_to, ?a_add, ?a_subtract, ?a_multiply, ?a_divide, ?a_square_root, ?a__require_operands, ?a_profile, ?a_implies, ?a_parting, ?a__law_taken, ?a__law_pick, ?a__law_two, ?a__law_format, ?a__law_top, ?a__law_normal, ?a__law_least, ?a__law_value, ?a__law_rules, ?a__law_many, ?a__law_number, ?a__law_wrong, ?e_BadFormat, ?e_BadDyadic, ?e_BadNumber, ?e_BadFraction, ?e_BadRule, ?e_BadNumbers, ?k_BadFormat_BadDyadic, ?k_BadFormat_BadNumber, ?k_BadFormat_BadFraction, ?k_BadFormat_BadRule, ?k_BadFormat_BadNumbers, ?k_BadDyadic_BadFormat, ?k_BadDyadic_BadNumber, ?k_BadDyadic_BadFraction, ?k_BadDyadic_BadRule, ?k_BadDyadic_BadNumbers, ?k_BadNumber_BadFormat, ?k_BadNumber_BadDyadic, ?k_BadNumber_BadFraction, ?k_BadNumber_BadRule, ?k_BadNumber_BadNumbers, ?k_BadFraction_BadFormat, ?k_BadFraction_BadDyadic, ?k_BadFraction_BadNumber, ?k_BadFraction_BadRule, ?k_BadFraction_BadNumbers, ?k_BadRule_BadFormat, ?k_BadRule_BadDyadic, ?k_BadRule_BadNumber, ?k_BadRule_BadFraction, ?k_BadRule_BadNumbers, ?k_BadNumbers_BadFormat, ?k_BadNumbers_BadDyadic, ?k_BadNumbers_BadNumber, ?k_BadNumbers_BadFraction, ?k_BadNumbers_BadRule, ?m_abs, ?m_all, ?m_bool, ?m_int, ?m_isinstance, ?m_len, ?m_list, ?m_min, ?m_str, ?m_tuple, ?d_RULES, ?c_MODES, ?c_TINY_WAYS, ?c_HUGE_WAYS, ?c_LEAST_PRECISION, ?c_GREATEST_PRECISION, ?c_GREATEST_EXPONENT, ?c_GREATEST_SPAN, ?c_GREATEST_FACTOR, ?c_GREATEST_POWER, ?c_RULES, ?c_ARITIES, ?c_GREATEST_PART⟩
      case a_to_units => (refine' Dl.at_mk KX G ?a ?l ?c ?k (fun _ _ _ _ _ _ us hl => match us, hl with | [_, _], _ => rfl)); (case a => k_is); (case l => k_is); (case c => k_is); (case k => k_is)
      case a_normal_units => (refine' Dl.at_mk KX G ?a ?l ?c ?k (fun _ _ _ _ _ _ us hl => match us, hl with | [_], _ => rfl)); (case a => k_is); (case l => k_is); (case c => k_is); (case k => k_is)
      case a_largest_units => (refine' Dl.at_mk KX G ?a ?l ?c ?k (fun _ _ _ _ _ _ us hl => match us, hl with | [_], _ => rfl)); (case a => k_is); (case l => k_is); (case c => k_is); (case k => k_is)
      case a_are_number => (refine' Dl.at_mk KX G ?a ?l ?c ?k (fun _ _ _ _ _ _ us hl => match us, hl with | [_, _], _ => rfl)); (case a => k_is); (case l => k_is); (case c => k_is); (case k => k_is)
      case a_is_within => (refine' Dl.at_mk KX G ?a ?l ?c ?k (fun _ _ _ _ _ _ us hl => match us, hl with | [_, _, _], _ => rfl)); (case a => k_is); (case l => k_is); (case c => k_is); (case k => k_is)
      case a_is_format => (refine' Dl.at_mk KX G ?a ?l ?c ?k (fun _ _ _ _ _ _ us hl => match us, hl with | [_], _ => rfl)); (case a => k_is); (case l => k_is); (case c => k_is); (case k => k_is)
      case a_is_dyadic => (refine' Dl.at_mk KX G ?a ?l ?c ?k (fun _ _ _ _ _ _ us hl => match us, hl with | [_], _ => rfl)); (case a => k_is); (case l => k_is); (case c => k_is); (case k => k_is)
      case a_is_number => (refine' Dl.at_mk KX G ?a ?l ?c ?k (fun _ _ _ _ _ _ us hl => match us, hl with | [_, _], _ => rfl)); (case a => k_is); (case l => k_is); (case c => k_is); (case k => k_is)
      case a_largest => (refine' Dl.at_mk KX G ?a ?l ?c ?k (fun _ _ _ _ _ _ us hl => match us, hl with | [_], _ => rfl)); (case a => k_is); (case l => k_is); (case c => k_is); (case k => k_is)
      case a_smallest_normal => (refine' Dl.at_mk KX G ?a ?l ?c ?k (fun _ _ _ _ _ _ us hl => match us, hl with | [_], _ => rfl)); (case a => k_is); (case l => k_is); (case c => k_is); (case k => k_is)
      case a_smallest => (refine' Dl.at_mk KX G ?a ?l ?c ?k (fun _ _ _ _ _ _ us hl => match us, hl with | [_], _ => rfl)); (case a => k_is); (case l => k_is); (case c => k_is); (case k => k_is)
      case a_count_numbers => (refine' Dl.at_mk KX G ?a ?l ?c ?k (fun _ _ _ _ _ _ us hl => match us, hl with | [_], _ => rfl)); (case a => k_is); (case l => k_is); (case c => k_is); (case k => k_is)
      case a_next_up => (refine' Dl.at_mk KX G ?a ?l ?c ?k (fun _ _ _ _ _ _ us hl => match us, hl with | [_, _], _ => rfl)); (case a => k_is); (case l => k_is); (case c => k_is); (case k => k_is)
      case a_require_format => (refine' Dl.at_mk KX G ?a ?l ?c ?k (fun _ _ _ _ _ _ us hl => match us, hl with | [_], _ => rfl)); (case a => k_is); (case l => k_is); (case c => k_is); (case k => k_is)
      case a_require_number => (refine' Dl.at_mk KX G ?a ?l ?c ?k (fun _ _ _ _ _ _ us hl => match us, hl with | [_, _], _ => rfl)); (case a => k_is); (case l => k_is); (case c => k_is); (case k => k_is)
      case a_has_number => (refine' Dl.at_mk KX G ?a ?l ?c ?k (fun _ _ _ _ _ _ us hl => match us, hl with | [_, _], _ => rfl)); (case a => k_is); (case l => k_is); (case c => k_is); (case k => k_is)
      case a__stands_for_number => (refine' Dl.at_mk KX G ?a ?l ?c ?k (fun _ _ _ _ _ _ us hl => match us, hl with | [_, _], _ => rfl)); (case a => k_is); (case l => k_is); (case c => k_is); (case k => k_is)
      case a_arity => (refine' Dl.at_mk KX G ?a ?l ?c ?k (fun _ _ _ _ _ _ us hl => match us, hl with | [_], _ => rfl)); (case a => k_is); (case l => k_is); (case c => k_is); (case k => k_is)
      case a_holds_for => (refine' Dl.at_mk KX G ?a ?l ?c ?k (fun _ _ _ _ _ _ us hl => match us, hl with | [_, _, _], _ => rfl)); (case a => k_is); (case l => k_is); (case c => k_is); (case k => k_is)
      case a_require_rule => (refine' Dl.at_mk KX G ?a ?l ?c ?k (fun _ _ _ _ _ _ us hl => match us, hl with | [_], _ => rfl)); (case a => k_is); (case l => k_is); (case c => k_is); (case k => k_is)
      case a__are_numbers => (refine' Dl.at_mk KX G ?a ?l ?c ?k (fun _ _ _ _ _ _ us hl => match us, hl with | [_, _, _], _ => rfl)); (case a => k_is); (case l => k_is); (case c => k_is); (case k => k_is)
      case a_holds => (refine' Dl.at_mk KX G ?a ?l ?c ?k (fun _ _ _ _ _ _ us hl => match us, hl with | [_, _], _ => rfl)); (case a => k_is); (case l => k_is); (case c => k_is); (case k => k_is)
      case a_counterexample => (refine' Dl.at_mk KX G ?a ?l ?c ?k (fun _ _ _ _ _ _ us hl => match us, hl with | [_, _], _ => rfl)); (case a => k_is); (case l => k_is); (case c => k_is); (case k => k_is)
      case a_round_to => (refine' Dl.at_mk KX G ?a ?l ?c ?k (fun _ _ _ _ _ _ us hl => match us, hl with | [_, _, _], _ => rfl)); (case a => k_is); (case l => k_is); (case c => k_is); (case k => k_is)
      case a_add => (refine' Dl.at_mk KX G ?a ?l ?c ?k (fun _ _ _ _ _ _ us hl => match us, hl with | [_, _, _], _ => rfl)); (case a => k_is); (case l => k_is); (case c => k_is); (case k => k_is)
      case a_subtract => (refine' Dl.at_mk KX G ?a ?l ?c ?k (fun _ _ _ _ _ _ us hl => match us, hl with | [_, _, _], _ => rfl)); (case a => k_is); (case l => k_is); (case c => k_is); (case k => k_is)
      case a_multiply => (refine' Dl.at_mk KX G ?a ?l ?c ?k (fun _ _ _ _ _ _ us hl => match us, hl with | [_, _, _], _ => rfl)); (case a => k_is); (case l => k_is); (case c => k_is); (case k => k_is)
      case a_divide => (refine' Dl.at_mk KX G ?a ?l ?c ?k (fun _ _ _ _ _ _ us hl => match us, hl with | [_, _, _], _ => rfl)); (case a => k_is); (case l => k_is); (case c => k_is); (case k => k_is)
      case a_square_root => (refine' Dl.at_mk KX G ?a ?l ?c ?k (fun _ _ _ _ _ _ us hl => match us, hl with | [_, _], _ => rfl)); (case a => k_is); (case l => k_is); (case c => k_is); (case k => k_is)
      case a__require_operands => (refine' Dl.at_mk KX G ?a ?l ?c ?k (fun _ _ _ _ _ _ us hl => match us, hl with | [_, _, _], _ => rfl)); (case a => k_is); (case l => k_is); (case c => k_is); (case k => k_is)
      case a_profile => (refine' Dl.at_mk KX G ?a ?l ?c ?k (fun _ _ _ _ _ _ us hl => match us, hl with | [_], _ => rfl)); (case a => k_is); (case l => k_is); (case c => k_is); (case k => k_is)
      case a_implies => (refine' Dl.at_mk KX G ?a ?l ?c ?k (fun _ _ _ _ _ _ us hl => match us, hl with | [_, _], _ => rfl)); (case a => k_is); (case l => k_is); (case c => k_is); (case k => k_is)
      case a_parting => (refine' Dl.at_mk KX G ?a ?l ?c ?k (fun _ _ _ _ _ _ us hl => match us, hl with | [_, _], _ => rfl)); (case a => k_is); (case l => k_is); (case c => k_is); (case k => k_is)
      case a__law_taken => (refine' Dl.at_mk KX G ?a ?l ?c ?k (fun _ _ _ _ _ _ us hl => match us, hl with | [_, _], _ => rfl)); (case a => k_is); (case l => k_is); (case c => k_is); (case k => k_is)
      case a__law_pick => (refine' Dl.at_mk KX G ?a ?l ?c ?k (fun _ _ _ _ _ _ us hl => match us, hl with | [_, _], _ => rfl)); (case a => k_is); (case l => k_is); (case c => k_is); (case k => k_is)
      case a__law_two => (refine' Dl.at_mk KX G ?a ?l ?c ?k (fun _ _ _ _ _ _ us hl => match us, hl with | [_], _ => rfl)); (case a => k_is); (case l => k_is); (case c => k_is); (case k => k_is)
      case a__law_format => (refine' Dl.at_mk KX G ?a ?l ?c ?k (fun _ _ _ _ _ _ us hl => match us, hl with | [_, _], _ => rfl)); (case a => k_is); (case l => k_is); (case c => k_is); (case k => k_is)
      case a__law_top => (refine' Dl.at_mk KX G ?a ?l ?c ?k (fun _ _ _ _ _ _ us hl => match us, hl with | [_], _ => rfl)); (case a => k_is); (case l => k_is); (case c => k_is); (case k => k_is)
      case a__law_normal => (refine' Dl.at_mk KX G ?a ?l ?c ?k (fun _ _ _ _ _ _ us hl => match us, hl with | [_], _ => rfl)); (case a => k_is); (case l => k_is); (case c => k_is); (case k => k_is)
      case a__law_least => (refine' Dl.at_mk KX G ?a ?l ?c ?k (fun _ _ _ _ _ _ us hl => match us, hl with | [_], _ => rfl)); (case a => k_is); (case l => k_is); (case c => k_is); (case k => k_is)
      case a__law_value => (refine' Dl.at_mk KX G ?a ?l ?c ?k (fun _ _ _ _ _ _ us hl => match us, hl with | [_, _], _ => rfl)); (case a => k_is); (case l => k_is); (case c => k_is); (case k => k_is)
      case a__law_rules => (refine' Dl.at_mk KX G ?a ?l ?c ?k (fun _ _ _ _ _ _ us hl => match us, hl with | [], _ => rfl)); (case a => k_is); (case l => k_is); (case c => k_is); (case k => k_is)
      case a__law_many => (refine' Dl.at_mk KX G ?a ?l ?c ?k (fun _ _ _ _ _ _ us hl => match us, hl with | [_], _ => rfl)); (case a => k_is); (case l => k_is); (case c => k_is); (case k => k_is)
      case a__law_number => (refine' Dl.at_mk KX G ?a ?l ?c ?k (fun _ _ _ _ _ _ us hl => match us, hl with | [_, _], _ => rfl)); (case a => k_is); (case l => k_is); (case c => k_is); (case k => k_is)
      case a__law_wrong => (refine' Dl.at_mk KX G ?a ?l ?c ?k (fun _ _ _ _ _ _ us hl => match us, hl with | [_], _ => rfl)); (case a => k_is); (case l => k_is); (case c => k_is); (case k => k_is)
      case e_BadFormat => (refine' ⟨_, _, Dl.err2_of ⟨PySem.W.mg_of KX G ?g, ?xP, ?kP, ?bP, ?tP, ?iP⟩ (PySem.W.mg_of KX G ?g2) ?b1 ?t1 ?i1 ?s1 ⟨?h1, ?h2, ?h3, ?h4, ?h5, ?h6, ?h7, ?h8⟩⟩; (case g => k_is); (case g2 => k_is); (case xP => k_exc); (case kP => k_is); (case bP => k_is); (case tP => k_is); (case iP => k_is); (case b1 => k_is); (case t1 => k_is); (case i1 => k_is); (case s1 => k_is); (case h1 => k_is); (case h2 => k_is); (case h3 => k_is); (case h4 => k_is); (case h5 => k_is); (case h6 => k_is); (case h7 => k_is); (case h8 => k_is))
      case e_BadDyadic => (refine' ⟨_, _, Dl.err2_of ⟨PySem.W.mg_of KX G ?g, ?xP, ?kP, ?bP, ?tP, ?iP⟩ (PySem.W.mg_of KX G ?g2) ?b1 ?t1 ?i1 ?s1 ⟨?h1, ?h2, ?h3, ?h4, ?h5, ?h6, ?h7, ?h8⟩⟩; (case g => k_is); (case g2 => k_is); (case xP => k_exc); (case kP => k_is); (case bP => k_is); (case tP => k_is); (case iP => k_is); (case b1 => k_is); (case t1 => k_is); (case i1 => k_is); (case s1 => k_is); (case h1 => k_is); (case h2 => k_is); (case h3 => k_is); (case h4 => k_is); (case h5 => k_is); (case h6 => k_is); (case h7 => k_is); (case h8 => k_is))
      case e_BadNumber => (refine' ⟨_, _, Dl.err2_of ⟨PySem.W.mg_of KX G ?g, ?xP, ?kP, ?bP, ?tP, ?iP⟩ (PySem.W.mg_of KX G ?g2) ?b1 ?t1 ?i1 ?s1 ⟨?h1, ?h2, ?h3, ?h4, ?h5, ?h6, ?h7, ?h8⟩⟩; (case g => k_is); (case g2 => k_is); (case xP => k_exc); (case kP => k_is); (case bP => k_is); (case tP => k_is); (case iP => k_is); (case b1 => k_is); (case t1 => k_is); (case i1 => k_is); (case s1 => k_is); (case h1 => k_is); (case h2 => k_is); (case h3 => k_is); (case h4 => k_is); (case h5 => k_is); (case h6 => k_is); (case h7 => k_is); (case h8 => k_is))
      case e_BadFraction => (refine' ⟨_, _, Dl.err2_of ⟨PySem.W.mg_of KX G ?g, ?xP, ?kP, ?bP, ?tP, ?iP⟩ (PySem.W.mg_of KX G ?g2) ?b1 ?t1 ?i1 ?s1 ⟨?h1, ?h2, ?h3, ?h4, ?h5, ?h6, ?h7, ?h8⟩⟩; (case g => k_is); (case g2 => k_is); (case xP => k_exc); (case kP => k_is); (case bP => k_is); (case tP => k_is); (case iP => k_is); (case b1 => k_is); (case t1 => k_is); (case i1 => k_is); (case s1 => k_is); (case h1 => k_is); (case h2 => k_is); (case h3 => k_is); (case h4 => k_is); (case h5 => k_is); (case h6 => k_is); (case h7 => k_is); (case h8 => k_is))
      case e_BadRule => (refine' ⟨_, _, Dl.err2_of ⟨PySem.W.mg_of KX G ?g, ?xP, ?kP, ?bP, ?tP, ?iP⟩ (PySem.W.mg_of KX G ?g2) ?b1 ?t1 ?i1 ?s1 ⟨?h1, ?h2, ?h3, ?h4, ?h5, ?h6, ?h7, ?h8⟩⟩; (case g => k_is); (case g2 => k_is); (case xP => k_exc); (case kP => k_is); (case bP => k_is); (case tP => k_is); (case iP => k_is); (case b1 => k_is); (case t1 => k_is); (case i1 => k_is); (case s1 => k_is); (case h1 => k_is); (case h2 => k_is); (case h3 => k_is); (case h4 => k_is); (case h5 => k_is); (case h6 => k_is); (case h7 => k_is); (case h8 => k_is))
      case e_BadNumbers => (refine' ⟨_, _, Dl.err2_of ⟨PySem.W.mg_of KX G ?g, ?xP, ?kP, ?bP, ?tP, ?iP⟩ (PySem.W.mg_of KX G ?g2) ?b1 ?t1 ?i1 ?s1 ⟨?h1, ?h2, ?h3, ?h4, ?h5, ?h6, ?h7, ?h8⟩⟩; (case g => k_is); (case g2 => k_is); (case xP => k_exc); (case kP => k_is); (case bP => k_is); (case tP => k_is); (case iP => k_is); (case b1 => k_is); (case t1 => k_is); (case i1 => k_is); (case s1 => k_is); (case h1 => k_is); (case h2 => k_is); (case h3 => k_is); (case h4 => k_is); (case h5 => k_is); (case h6 => k_is); (case h7 => k_is); (case h8 => k_is))
      case k_BadFormat_BadDyadic => (refine' Dl.kit_no KX G ?g1 ?g2 ?hne ?t1 ?i1 ?s1; (case g1 => k_is); (case g2 => k_is); (case hne => rfl); (case t1 => k_is); (case i1 => k_is); (case s1 => k_is))
      case k_BadFormat_BadNumber => (refine' Dl.kit_no KX G ?g1 ?g2 ?hne ?t1 ?i1 ?s1; (case g1 => k_is); (case g2 => k_is); (case hne => rfl); (case t1 => k_is); (case i1 => k_is); (case s1 => k_is))
      case k_BadFormat_BadFraction => (refine' Dl.kit_no KX G ?g1 ?g2 ?hne ?t1 ?i1 ?s1; (case g1 => k_is); (case g2 => k_is); (case hne => rfl); (case t1 => k_is); (case i1 => k_is); (case s1 => k_is))
      case k_BadFormat_BadRule => (refine' Dl.kit_no KX G ?g1 ?g2 ?hne ?t1 ?i1 ?s1; (case g1 => k_is); (case g2 => k_is); (case hne => rfl); (case t1 => k_is); (case i1 => k_is); (case s1 => k_is))
      case k_BadFormat_BadNumbers => (refine' Dl.kit_no KX G ?g1 ?g2 ?hne ?t1 ?i1 ?s1; (case g1 => k_is); (case g2 => k_is); (case hne => rfl); (case t1 => k_is); (case i1 => k_is); (case s1 => k_is))
      case k_BadDyadic_BadFormat => (refine' Dl.kit_no KX G ?g1 ?g2 ?hne ?t1 ?i1 ?s1; (case g1 => k_is); (case g2 => k_is); (case hne => rfl); (case t1 => k_is); (case i1 => k_is); (case s1 => k_is))
      case k_BadDyadic_BadNumber => (refine' Dl.kit_no KX G ?g1 ?g2 ?hne ?t1 ?i1 ?s1; (case g1 => k_is); (case g2 => k_is); (case hne => rfl); (case t1 => k_is); (case i1 => k_is); (case s1 => k_is))
      case k_BadDyadic_BadFraction => (refine' Dl.kit_no KX G ?g1 ?g2 ?hne ?t1 ?i1 ?s1; (case g1 => k_is); (case g2 => k_is); (case hne => rfl); (case t1 => k_is); (case i1 => k_is); (case s1 => k_is))
      case k_BadDyadic_BadRule => (refine' Dl.kit_no KX G ?g1 ?g2 ?hne ?t1 ?i1 ?s1; (case g1 => k_is); (case g2 => k_is); (case hne => rfl); (case t1 => k_is); (case i1 => k_is); (case s1 => k_is))
      case k_BadDyadic_BadNumbers => (refine' Dl.kit_no KX G ?g1 ?g2 ?hne ?t1 ?i1 ?s1; (case g1 => k_is); (case g2 => k_is); (case hne => rfl); (case t1 => k_is); (case i1 => k_is); (case s1 => k_is))
      case k_BadNumber_BadFormat => (refine' Dl.kit_no KX G ?g1 ?g2 ?hne ?t1 ?i1 ?s1; (case g1 => k_is); (case g2 => k_is); (case hne => rfl); (case t1 => k_is); (case i1 => k_is); (case s1 => k_is))
      case k_BadNumber_BadDyadic => (refine' Dl.kit_no KX G ?g1 ?g2 ?hne ?t1 ?i1 ?s1; (case g1 => k_is); (case g2 => k_is); (case hne => rfl); (case t1 => k_is); (case i1 => k_is); (case s1 => k_is))
      case k_BadNumber_BadFraction => (refine' Dl.kit_no KX G ?g1 ?g2 ?hne ?t1 ?i1 ?s1; (case g1 => k_is); (case g2 => k_is); (case hne => rfl); (case t1 => k_is); (case i1 => k_is); (case s1 => k_is))
      case k_BadNumber_BadRule => (refine' Dl.kit_no KX G ?g1 ?g2 ?hne ?t1 ?i1 ?s1; (case g1 => k_is); (case g2 => k_is); (case hne => rfl); (case t1 => k_is); (case i1 => k_is); (case s1 => k_is))
      case k_BadNumber_BadNumbers => (refine' Dl.kit_no KX G ?g1 ?g2 ?hne ?t1 ?i1 ?s1; (case g1 => k_is); (case g2 => k_is); (case hne => rfl); (case t1 => k_is); (case i1 => k_is); (case s1 => k_is))
      case k_BadFraction_BadFormat => (refine' Dl.kit_no KX G ?g1 ?g2 ?hne ?t1 ?i1 ?s1; (case g1 => k_is); (case g2 => k_is); (case hne => rfl); (case t1 => k_is); (case i1 => k_is); (case s1 => k_is))
      case k_BadFraction_BadDyadic => (refine' Dl.kit_no KX G ?g1 ?g2 ?hne ?t1 ?i1 ?s1; (case g1 => k_is); (case g2 => k_is); (case hne => rfl); (case t1 => k_is); (case i1 => k_is); (case s1 => k_is))
      case k_BadFraction_BadNumber => (refine' Dl.kit_no KX G ?g1 ?g2 ?hne ?t1 ?i1 ?s1; (case g1 => k_is); (case g2 => k_is); (case hne => rfl); (case t1 => k_is); (case i1 => k_is); (case s1 => k_is))
      case k_BadFraction_BadRule => (refine' Dl.kit_no KX G ?g1 ?g2 ?hne ?t1 ?i1 ?s1; (case g1 => k_is); (case g2 => k_is); (case hne => rfl); (case t1 => k_is); (case i1 => k_is); (case s1 => k_is))
      case k_BadFraction_BadNumbers => (refine' Dl.kit_no KX G ?g1 ?g2 ?hne ?t1 ?i1 ?s1; (case g1 => k_is); (case g2 => k_is); (case hne => rfl); (case t1 => k_is); (case i1 => k_is); (case s1 => k_is))
      case k_BadRule_BadFormat => (refine' Dl.kit_no KX G ?g1 ?g2 ?hne ?t1 ?i1 ?s1; (case g1 => k_is); (case g2 => k_is); (case hne => rfl); (case t1 => k_is); (case i1 => k_is); (case s1 => k_is))
      case k_BadRule_BadDyadic => (refine' Dl.kit_no KX G ?g1 ?g2 ?hne ?t1 ?i1 ?s1; (case g1 => k_is); (case g2 => k_is); (case hne => rfl); (case t1 => k_is); (case i1 => k_is); (case s1 => k_is))
      case k_BadRule_BadNumber => (refine' Dl.kit_no KX G ?g1 ?g2 ?hne ?t1 ?i1 ?s1; (case g1 => k_is); (case g2 => k_is); (case hne => rfl); (case t1 => k_is); (case i1 => k_is); (case s1 => k_is))
      case k_BadRule_BadFraction => (refine' Dl.kit_no KX G ?g1 ?g2 ?hne ?t1 ?i1 ?s1; (case g1 => k_is); (case g2 => k_is); (case hne => rfl); (case t1 => k_is); (case i1 => k_is); (case s1 => k_is))
      case k_BadRule_BadNumbers => (refine' Dl.kit_no KX G ?g1 ?g2 ?hne ?t1 ?i1 ?s1; (case g1 => k_is); (case g2 => k_is); (case hne => rfl); (case t1 => k_is); (case i1 => k_is); (case s1 => k_is))
      case k_BadNumbers_BadFormat => (refine' Dl.kit_no KX G ?g1 ?g2 ?hne ?t1 ?i1 ?s1; (case g1 => k_is); (case g2 => k_is); (case hne => rfl); (case t1 => k_is); (case i1 => k_is); (case s1 => k_is))
      case k_BadNumbers_BadDyadic => (refine' Dl.kit_no KX G ?g1 ?g2 ?hne ?t1 ?i1 ?s1; (case g1 => k_is); (case g2 => k_is); (case hne => rfl); (case t1 => k_is); (case i1 => k_is); (case s1 => k_is))
      case k_BadNumbers_BadNumber => (refine' Dl.kit_no KX G ?g1 ?g2 ?hne ?t1 ?i1 ?s1; (case g1 => k_is); (case g2 => k_is); (case hne => rfl); (case t1 => k_is); (case i1 => k_is); (case s1 => k_is))
      case k_BadNumbers_BadFraction => (refine' Dl.kit_no KX G ?g1 ?g2 ?hne ?t1 ?i1 ?s1; (case g1 => k_is); (case g2 => k_is); (case hne => rfl); (case t1 => k_is); (case i1 => k_is); (case s1 => k_is))
      case k_BadNumbers_BadRule => (refine' Dl.kit_no KX G ?g1 ?g2 ?hne ?t1 ?i1 ?s1; (case g1 => k_is); (case g2 => k_is); (case hne => rfl); (case t1 => k_is); (case i1 => k_is); (case s1 => k_is))
      case m_abs => exact PySem.W.mg_none_of KX G (by k_is)
      case m_all => exact PySem.W.mg_none_of KX G (by k_is)
      case m_bool => exact PySem.W.mg_none_of KX G (by k_is)
      case m_int => exact PySem.W.mg_none_of KX G (by k_is)
      case m_isinstance => exact PySem.W.mg_none_of KX G (by k_is)
      case m_len => exact PySem.W.mg_none_of KX G (by k_is)
      case m_list => exact PySem.W.mg_none_of KX G (by k_is)
      case m_min => exact PySem.W.mg_none_of KX G (by k_is)
      case m_str => exact PySem.W.mg_none_of KX G (by k_is)
      case m_tuple => exact PySem.W.mg_none_of KX G (by k_is)
      case d_RULES => (refine' Dl.dn_mk KX G ?a ?l; (case a => k_is); (case l => k_is))
      case c_MODES => (refine' Dl.tup_mk KX G ?a ?l ?v (by show _ ≤ PySem.sizeLine; decide)); (case a => k_is); (case l => k_is); (case v => exact .cons ⟨_, rfl⟩ (.cons ⟨_, rfl⟩ (.cons ⟨_, rfl⟩ (.cons ⟨_, rfl⟩ (.cons ⟨_, rfl⟩ (.nil))))))
      case c_TINY_WAYS => (refine' Dl.tup_mk KX G ?a ?l ?v (by show _ ≤ PySem.sizeLine; decide)); (case a => k_is); (case l => k_is); (case v => exact .cons ⟨_, rfl⟩ (.cons ⟨_, rfl⟩ (.nil)))
      case c_HUGE_WAYS => (refine' Dl.tup_mk KX G ?a ?l ?v (by show _ ≤ PySem.sizeLine; decide)); (case a => k_is); (case l => k_is); (case v => exact .cons ⟨_, rfl⟩ (.cons ⟨_, rfl⟩ (.nil)))
      case c_LEAST_PRECISION => exact ⟨_, PySem.W.mg_of KX G (by k_is)⟩
      case c_GREATEST_PRECISION => exact ⟨_, PySem.W.mg_of KX G (by k_is)⟩
      case c_GREATEST_EXPONENT => exact ⟨_, PySem.W.mg_of KX G (by k_is)⟩
      case c_GREATEST_SPAN => exact ⟨_, PySem.W.mg_of KX G (by k_is)⟩
      case c_GREATEST_FACTOR => exact ⟨_, PySem.W.mg_of KX G (by k_is)⟩
      case c_GREATEST_POWER => exact ⟨_, PySem.W.mg_of KX G (by k_is)⟩
      case c_RULES => (refine' Dl.tup_mk KX G ?a ?l ?v (by show _ ≤ PySem.sizeLine; decide)); (case a => k_is); (case l => k_is); (case v => exact .cons ⟨_, rfl⟩ (.cons ⟨_, rfl⟩ (.cons ⟨_, rfl⟩ (.cons ⟨_, rfl⟩ (.cons ⟨_, rfl⟩ (.cons ⟨_, rfl⟩ (.cons ⟨_, rfl⟩ (.cons ⟨_, rfl⟩ (.cons ⟨_, rfl⟩ (.cons ⟨_, rfl⟩ (.cons ⟨_, rfl⟩ (.cons ⟨_, rfl⟩ (.cons ⟨_, rfl⟩ (.cons ⟨_, rfl⟩ (.nil)))))))))))))))
      case c_ARITIES => (refine' Dl.kdI_mk KX G ?a ?l ?hk ?e); (case a => k_is); (case l => k_is); (case hk => exact ⟨⟨_, _, rfl, rfl⟩, ⟨_, _, rfl, rfl⟩, ⟨_, _, rfl, rfl⟩, ⟨_, _, rfl, rfl⟩, ⟨_, _, rfl, rfl⟩, ⟨_, _, rfl, rfl⟩, ⟨_, _, rfl, rfl⟩, ⟨_, _, rfl, rfl⟩, ⟨_, _, rfl, rfl⟩, ⟨_, _, rfl, rfl⟩, ⟨_, _, rfl, rfl⟩, ⟨_, _, rfl, rfl⟩, ⟨_, _, rfl, rfl⟩, ⟨_, _, rfl, rfl⟩, trivial⟩); (case e => exact ⟨⟨_, by k_is⟩, ⟨_, by k_is⟩, ⟨_, by k_is⟩, ⟨_, by k_is⟩, ⟨_, by k_is⟩, ⟨_, by k_is⟩, ⟨_, by k_is⟩, ⟨_, by k_is⟩, ⟨_, by k_is⟩, ⟨_, by k_is⟩, ⟨_, by k_is⟩, ⟨_, by k_is⟩, ⟨_, by k_is⟩, ⟨_, by k_is⟩, trivial⟩)
      case c_GREATEST_PART => exact ⟨_, PySem.W.mg_of KX G (by k_is)⟩
    (case A0 => k_is); (case L0 => k_is); (case C0 => k_is); (case K0 => k_is); (case Z0 => rfl)
