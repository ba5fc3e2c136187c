import PyProof.Rows.All
import Wide.All
import OpenK.AllK
import Wide.FinOn
import HandS.List
import HandS.Text
import HandS.Style
import HandS.ForMost
import HandS.ForExc
import HandS.WideBits
import HandS.Wide
import HandS.IsInst
import HandS.Gcd
import HandS.Flt
import HandS.TupLe
import HandS.SortInts
import HandS.TupMul
import HandS.Star
import HandS.CallLocal
import HandS.TupSets
import HandS.SetBool
import KE.SortData
import Flt.RightSqrt
import KE.KMathG
import HandS.Lambda
import HandS.ExcIs
import HandS.EndTab
import KE.KNest
import HandS.DictSub
import HandS.Small
import HandS.Iter
import KE.DataFind
import KE.DataEq
import PyProof.EqLayable
import HandS.SetFor
import KE.KDictPairs
import HandS.StrMore
import KE.IntTextLaws
import PyProof.StrLawsAffix
import HandS.FStr
import PyProof.StrOps2
import KE.LtData
import PySem.Challenge.RW_rulesheld_k06_whole_profiles
set_option Elab.async false
set_option linter.all false
set_option maxRecDepth 100000
set_option maxHeartbeats 4000000
/-! Dl: tuples made at run time, of which it is known that they have no dict of their own -/
namespace Dl
open PySem PySem.Spec PyProof.Rows L2
section
variable {X : Cx} {pos : Pos} {es : List Expr} {t : TA}
theorem frz_ok {P : Program} {w : World} {H : Hp} {h : Heap} {a : Addr} {xs : List V} {us : List Value} {n : Nat} (hz : xs.length ≤ sizeLine) (r : Vals xs us) (hg : h.get? a = some { cls := .type "tuple", data := .seq us.toArray n }) :
    ObjOk P w H h a (.frz { cls := .type "tuple", data := .seq us.toArray n } (.tup xs)) := ⟨hg, hz, us, r, ⟨_, hg, rfl, n, rfl⟩⟩
def tTupF (t : TA) : TE := fun σ H Q => t σ H fun xs H1 => xs.length ≤ sizeLine ∧ ∀ p o, o.dict = none → H1 p = none → Q (.ref p) (upd H1 p (.frz o (.tup xs)))
theorem pe_tupF {x1} (h : PA X es t) : PE X (.Tuple es x1 pos) (tTupF t) := by
  refine ⟨fun pins s σ H Q I hq => ?_⟩
  refine wpAny_Tuple_spliced (thn (h.run pos pins s σ H _ I hq) fun us s1 ⟨xs, H1, I1, r, z, q⟩ => ⟨by rw [← r.length]; exact z, ?_⟩)
  have hf : H1 s1.heap.objs.size = none := I1.hok.fresh (Nat.le_refl _)
  exact ⟨.ref s1.heap.objs.size, _, I1.laid (t' := s1.toks) (fun b u e => Heap.get?_push_of_some _ e) (Nat.le_refl _) (frz_ok z r (Heap.get?_push_size _ rfl)), rfl, q _ _ rfl hf⟩
theorem call_tupleF : CallR X (.type "tuple") (fun xs H Q => ∃ p ys, xs = [.ref p] ∧ SqL X.K H p ys ∧ ∀ l o, o.dict = none → H l = none → Q (.ref l) (upd H l (.frz o (.tup ys)))) := by
  intro pins s σ H xs us Q I r h
  obtain ⟨p, ys, rfl, hq, q⟩ := h
  obtain ⟨u, rfl, rx⟩ := vals1 r
  cases rx
  obtain ⟨its, r', pl, hz⟩ := I.list hq
  have hlen := r'.length
  refine call_tuple_list pl.isList (fun h' kp => ?_) (by simp only [List.size_toArray] <;> omega)
  have I1 : Inv X pins σ H { s with heap := h' } := I.kept (t' := s.toks) kp
  exact ⟨.ref h'.objs.size, _, I1.laid (t' := s.toks) (fun b o e => Heap.get?_push_of_some _ e) (Nat.le_refl _) (frz_ok hz r' (Heap.get?_push_size _ rfl)), rfl, q _ _ rfl (I1.hok.fresh (Nat.le_refl _))⟩
def rSlTF (K : PySem.W.Frag) : V → Option Int → Option Int → Hp → VK → Prop := fun x lo hi H Q => ∃ a xs, x = .ref a ∧ SqT K H a xs ∧
  ¬ (HT.sIx xs.length 0 lo = 0 ∧ HT.sIx xs.length xs.length hi = xs.length) ∧ ∀ p o, o.dict = none → H p = none → Q (.ref p) (upd H p (.frz o (.tup (cutV xs lo hi))))
theorem sl_tupF : SlR X (rSlTF X.K) := by
  intro pins s σ H x v vl vu lo hi sl Q I rx hs pl pu h
  obtain ⟨a, xs, rfl, hx, hw, q⟩ := h
  cases rx
  obtain ⟨its, r, ht, hz⟩ := I.tuple hx
  have hlen : its.toArray.size = xs.length := by rw [List.size_toArray]; exact r.length.symm
  refine ⟨"tuple", _, PyProof.Rows.slot_tuple_getitem.lookup, ht.typeIs, ?_⟩
  refine HT.getItem_tuple_cut ht hs pl pu (by rw [hlen]; exact hw) ?_ (by rw [hlen]; exact hz)
  rw [hlen]
  exact ⟨.ref s.heap.objs.size, _, I.laid (t' := s.toks) (fun b ob q => Heap.get?_push_of_some _ q) (Nat.le_refl _) (frz_ok (Nat.le_trans (cutV_length xs lo hi) hz) ((r.drop (HT.sIx xs.length 0 lo)).take (HT.sIx xs.length xs.length hi - HT.sIx xs.length 0 lo)) (Heap.get?_push_size _ rfl)), rfl, q _ _ rfl (I.hok.fresh (Nat.le_refl _))⟩
def rCatTF (K : PySem.W.Frag) : R2 := fun x y H Q => ∃ a b xs ys, x = .ref a ∧ y = .ref b ∧ SqT K H a xs ∧ SqT K H b ys ∧ xs ≠ [] ∧ ys ≠ [] ∧ xs.length + ys.length ≤ sizeLine ∧
  ∀ p o, o.dict = none → H p = none → Q (.ref p) (upd H p (.frz o (.tup (xs ++ ys))))
theorem op_catTF : OpR X (binaryOp .Add) (rCatTF X.K) := by
  intro pins s σ H x y v u Q I rx ry h
  obtain ⟨a, b, xs, ys, rfl, rfl, ha, hb, hx, hy, hz, q2⟩ := h
  cases rx
  cases ry
  obtain ⟨its, r1, p1, _⟩ := I.tuple ha
  obtain ⟨its2, r2, p2, _⟩ := I.tuple hb
  refine HT.cat_tup p1 p2 (fun z => hx (r1.nil_iff.mp z)) (fun z => absurd (r2.nil_iff.mp z) hy) (fun z => ?_) (by rw [← r1.length, ← r2.length]; exact hz)
  exact ⟨.ref s.heap.objs.size, _, I.laid (t' := s.toks) (fun b ob q => Heap.get?_push_of_some _ q) (Nat.le_refl _) (frz_ok (by rw [List.length_append]; exact hz) (r1.append r2) (Heap.get?_push_size _ rfl)), rfl, q2 _ _ rfl (I.hok.fresh (Nat.le_refl _))⟩
end
end Dl
namespace Dl
open PySem PySem.Spec PyProof.Rows L2
end Dl
set_option Elab.async false
set_option linter.all false
set_option maxRecDepth 100000
set_option maxHeartbeats 4000000
/-! Dl: what an expression or a block is worth, over plain data; the heap is out of sight. -/
namespace Dl
open PySem PySem.Spec PyProof.Rows L2
/-! ### data in a heap, away from the addresses of S -/
abbrev AS := Addr → Prop
/-- a list, a tuple: tracked, away from S; or of the written part -/
def LsN (K : PySem.W.Frag) (S : AS) (H : Hp) (a : Addr) (xs : List V) : Prop := ¬ S a ∧ H a = some (.lst xs)
/-- a written tuple's object has no dict -/
def DN (K : PySem.W.Frag) (a : Addr) : Prop := ∃ o : Obj, K.lookup a = some o ∧ o.cls = .type "tuple" ∧ o.dict = none
def TpN (K : PySem.W.Frag) (S : AS) (H : Hp) (a : Addr) (xs : List V) : Prop := (¬ S a ∧ ∃ o : Obj, o.dict = none ∧ H a = some (.frz o (.tup xs))) ∨ (SqT K (fun _ => none) a xs ∧ DN K a)
mutual
inductive Dn (K : PySem.W.Frag) (S : AS) (H : Hp) : V → PyData → Prop
  | non : Dn K S H .non .none
  | bl (b : Bool) : Dn K S H (.bl b) (.bool b)
  | int (i : Int) : Dn K S H (.int i) (.int i)
  | str (x : Str) : Dn K S H (.str x) (.str x)
  | lst {a : Addr} {xs : List V} {ds : List PyData} : LsN K S H a xs → DnAll K S H xs ds → Dn K S H (.ref a) (.list ds)
  | tup {a : Addr} {xs : List V} {ds : List PyData} : TpN K S H a xs → DnAll K S H xs ds → Dn K S H (.ref a) (.tuple ds)
inductive DnAll (K : PySem.W.Frag) (S : AS) (H : Hp) : List V → List PyData → Prop
  | nil : DnAll K S H [] []
  | cons {v : V} {vs : List V} {d : PyData} {ds : List PyData} : Dn K S H v d → DnAll K S H vs ds → DnAll K S H (v :: vs) (d :: ds)
end
abbrev CS := Addr → HO → Prop
/-- a table of code objects -/
def Tb (o : HO) : Prop := ∃ ps, o = .tbl ps
theorem nTl {xs : List V} : ¬ Tb (.lst xs) := fun ⟨_, z⟩ => by cases z
/-- what is not in C stays -/
structure Xt (C : CS) (H H' : Hp) : Prop where
  k : ∀ a o, ¬ C a o → H a = some o → H' a = some o
abbrev C0 : CS := fun _ _ => False
theorem Xt.refl {C : CS} (H : Hp) : Xt C H H := ⟨fun _ _ _ h => h⟩
theorem Xt.trans {C : CS} {H H1 H2 : Hp} (a : Xt C H H1) (b : Xt C H1 H2) : Xt C H H2 := ⟨fun x o c h => b.k x o c (a.k x o c h)⟩
theorem Xt.of0 {C : CS} {H H' : Hp} (a : Xt C0 H H') : Xt C H H' := ⟨fun x o _ h => a.k x o (fun z => z) h⟩
theorem Xt.mono {C D : CS} {H H' : Hp} (a : Xt C H H') (h : ∀ x o, C x o → D x o) : Xt D H H' := ⟨fun x o c e => a.k x o (fun z => c (h x o z)) e⟩
theorem Xt.put {C : CS} {H : Hp} {p : Addr} {o : HO} (h : (∀ u, C p u) ∨ H p = none) : Xt C H (upd H p o) := ⟨fun a u c e => by
  have hne : a ≠ p := fun z => by
    subst z
    rcases h with h | h
    · exact c (h u)
    · rw [h] at e; cases e
  rw [upd_ne hne]
  exact e⟩
theorem Xt.new {C : CS} {H : Hp} {p : Addr} {o : HO} (h : H p = none) : Xt C H (upd H p o) := .put (.inr h)
theorem Xt.put2 {C : CS} {H H5 : Hp} {p : Addr} {o : HO} (e : Xt C H H5) (h : H p = none) : Xt C H (upd H5 p o) := ⟨fun a u c q => by
  have hne : a ≠ p := fun z => by
    subst z
    rw [h] at q; cases q
  rw [upd_ne hne]
  exact e.k a u c q⟩
theorem rd_mono {C : CS} {H H' : Hp} {a : Addr} {u : HO} (e : Xt C H H') (hn : ∀ o, ¬ Tb o → ¬ C a o) (hu : ¬ Tb u) (h : Rd H a u) : Rd H' a u := by
  rcases h with h | ⟨o, h⟩
  · exact .inl (e.k _ _ (hn _ hu) h)
  · exact .inr ⟨o, e.k _ _ (hn _ fun ⟨_, z⟩ => by cases z) h⟩
theorem sql_w {K : PySem.W.Frag} {H : Hp} {a : Addr} {xs : List V} (h : SqL K (fun _ => none) a xs) : SqL K H a xs := by
  rcases h with (h | ⟨o, h⟩) | h
  · cases h
  · cases h
  · exact .inr h
theorem sqt_w {K : PySem.W.Frag} {H : Hp} {a : Addr} {xs : List V} (h : SqT K (fun _ => none) a xs) : SqT K H a xs := by
  rcases h with (h | ⟨o, h⟩) | h
  · cases h
  · cases h
  · exact .inr h
theorem LsN.sq {K : PySem.W.Frag} {S : AS} {H : Hp} {a : Addr} {xs : List V} (h : LsN K S H a xs) : SqL K H a xs := .inl (.of h.2)
theorem TpN.sq {K : PySem.W.Frag} {S : AS} {H : Hp} {a : Addr} {xs : List V} (h : TpN K S H a xs) : SqT K H a xs := by
  rcases h with ⟨_, o, _, h⟩ | h
  · exact .inl (.inr ⟨o, h⟩)
  · exact sqt_w h.1
theorem LsN.mono {K : PySem.W.Frag} {S : AS} {C : CS} {H H' : Hp} {a : Addr} {xs : List V} (hC : ∀ a o, C a o → S a ∨ Tb o) (e : Xt C H H') (h : LsN K S H a xs) : LsN K S H' a xs :=
  ⟨h.1, e.k a _ (fun z => (hC a _ z).elim h.1 nTl) h.2⟩
theorem nTz {o : Obj} {xs : List V} : ¬ Tb (.frz o (.tup xs)) := fun ⟨_, h⟩ => by cases h
theorem TpN.mono {K : PySem.W.Frag} {S : AS} {C : CS} {H H' : Hp} {a : Addr} {xs : List V} (hC : ∀ a o, C a o → S a ∨ Tb o) (e : Xt C H H') (h : TpN K S H a xs) : TpN K S H' a xs := by
  rcases h with ⟨n, o, hd, h⟩ | h
  · exact .inl ⟨n, o, hd, e.k a _ (fun z => (hC a _ z).elim n nTz) h⟩
  · exact .inr h
theorem LsN.less {K : PySem.W.Frag} {S T : AS} {H : Hp} {a : Addr} {xs : List V} (hT : ∀ b, Rd H b (.lst xs) → T b → S b) (h : LsN K S H a xs) : LsN K T H a xs := ⟨fun z => h.1 (hT a (.of h.2) z), h.2⟩
theorem TpN.less {K : PySem.W.Frag} {S T : AS} {H : Hp} {a : Addr} {xs : List V} (hT : ∀ b, Rd H b (.tup xs) → T b → S b) (h : TpN K S H a xs) : TpN K T H a xs := by
  rcases h with ⟨n, o, hd, h⟩ | h
  · exact .inl ⟨fun z => n (hT _ (.inr ⟨o, h⟩) z), o, hd, h⟩
  · exact .inr h
theorem rd_some {H : Hp} {a : Addr} {u : HO} (h : Rd H a u) : H a ≠ none := by
  rcases h with h | ⟨o, h⟩ <;> rw [h] <;> exact fun z => by cases z
section
variable {K : PySem.W.Frag} {S : AS} {C : CS} {H H' : Hp}
mutual
theorem Dn.mono (hC : ∀ a o, C a o → S a ∨ Tb o) (e : Xt C H H') : ∀ (d : PyData) (v : V), Dn K S H v d → Dn K S H' v d
  | .none, _, h => by cases h; exact .non
  | .bool _, _, h => by cases h; exact .bl _
  | .int _, _, h => by cases h; exact .int _
  | .str _, _, h => by cases h; exact .str _
  | .list ds, _, h => by
    cases h with
    | lst hs ha => exact .lst (hs.mono hC e) (Dn.monoAll hC e ds _ ha)
  | .tuple ds, _, h => by
    cases h with
    | tup hs ha => exact .tup (hs.mono hC e) (Dn.monoAll hC e ds _ ha)
  | .dict _, _, h => by cases h
theorem Dn.monoAll (hC : ∀ a o, C a o → S a ∨ Tb o) (e : Xt C H H') : ∀ (ds : List PyData) (vs : List V), DnAll K S H vs ds → DnAll K S H' vs ds
  | [], _, h => by cases h; exact .nil
  | d :: ds, _, h => by
    cases h with
    | cons h1 h2 => exact .cons (Dn.mono hC e d _ h1) (Dn.monoAll hC e ds _ h2)
end
-- away from other addresses, of which none that stands is new
mutual
theorem Dn.less {T : AS} (hT : ∀ a, H a ≠ Option.none → T a → S a) : ∀ (d : PyData) (v : V), Dn K S H v d → Dn K T H v d
  | .none, _, h => by cases h; exact .non
  | .bool _, _, h => by cases h; exact .bl _
  | .int _, _, h => by cases h; exact .int _
  | .str _, _, h => by cases h; exact .str _
  | .list ds, _, h => by
    cases h with
    | lst hs ha => exact .lst (hs.less fun b r => hT b (rd_some r)) (Dn.lessAll hT ds _ ha)
  | .tuple ds, _, h => by
    cases h with
    | tup hs ha => exact .tup (hs.less fun b r => hT b (rd_some r)) (Dn.lessAll hT ds _ ha)
  | .dict _, _, h => by cases h
theorem Dn.lessAll {T : AS} (hT : ∀ a, H a ≠ Option.none → T a → S a) : ∀ (ds : List PyData) (vs : List V), DnAll K S H vs ds → DnAll K T H vs ds
  | [], _, h => by cases h; exact .nil
  | d :: ds, _, h => by
    cases h with
    | cons h1 h2 => exact .cons (Dn.less hT d _ h1) (Dn.lessAll hT ds _ h2)
end
theorem DnAll.length : ∀ {vs : List V} {ds : List PyData}, DnAll K S H vs ds → vs.length = ds.length
  | _, _, .nil => rfl
  | _, _, .cons _ t => congrArg (· + 1) (DnAll.length t)
theorem DnAll.get : ∀ {vs : List V} {ds : List PyData} {i : Nat} {d : PyData}, DnAll K S H vs ds → ds[i]? = some d → ∃ v, vs[i]? = some v ∧ Dn K S H v d
  | _, _, _, _, .nil, e => by simp at e
  | _, _, 0, _, .cons r _, e => by simp at e; subst e; exact ⟨_, rfl, r⟩
  | _, _, i + 1, d, .cons _ t, e => by
    obtain ⟨u, h1, h2⟩ := DnAll.get (i := i) (d := d) t (by simpa using e)
    exact ⟨u, by simpa using h1, h2⟩
theorem DnAll.append : ∀ {xs ys : List V} {ds es : List PyData}, DnAll K S H xs ds → DnAll K S H ys es → DnAll K S H (xs ++ ys) (ds ++ es)
  | _, _, _, _, .nil, s => s
  | _, _, _, _, .cons r t, s => .cons r (DnAll.append t s)
theorem DnAll.take : ∀ {xs : List V} {ds : List PyData} (n : Nat), DnAll K S H xs ds → DnAll K S H (xs.take n) (ds.take n)
  | _, _, 0, _ => by simp; exact .nil
  | _, _, _ + 1, .nil => by simp; exact .nil
  | _, _, n + 1, .cons r t => by simp; exact .cons r (DnAll.take n t)
theorem DnAll.drop : ∀ {xs : List V} {ds : List PyData} (n : Nat), DnAll K S H xs ds → DnAll K S H (xs.drop n) (ds.drop n)
  | _, _, 0, r => by simpa using r
  | _, _, _ + 1, .nil => by simp; exact .nil
  | _, _, n + 1, .cons r t => by simp; exact DnAll.drop n t
end
/-- plain values -/
def scV : PyData → Option V
  | .none => some .non
  | .bool b => some (.bl b)
  | .int i => some (.int i)
  | .str x => some (.str x)
  | _ => none
theorem Dn.sc {K : PySem.W.Frag} {S : AS} {H : Hp} {v w : V} {d : PyData} (h : Dn K S H v d) (e : scV d = some w) : v = w := by
  cases h <;> simp [scV] at e <;> exact e
theorem dn_sc {K : PySem.W.Frag} {S : AS} {H : Hp} {w : V} {d : PyData} (e : scV d = some w) : Dn K S H w d := by
  cases d <;> simp [scV] at e <;> subst e
  · exact .non
  · exact .bl _
  · exact .int _
  · exact .str _
mutual
theorem Dn.dp {K : PySem.W.Frag} {S : AS} {H : Hp} : ∀ (d : PyData) (v : V), Dn K S H v d → Dp K H v d
  | .none, _, h => by cases h; exact .non
  | .bool _, _, h => by cases h; exact .bl _
  | .int _, _, h => by cases h; exact .int _
  | .str _, _, h => by cases h; exact .str _
  | .list ds, _, h => by
    cases h with
    | lst hs ha => exact .lst hs.sq (Dn.dpAll ds _ ha)
  | .tuple ds, _, h => by
    cases h with
    | tup hs ha => exact .tup hs.sq (Dn.dpAll ds _ ha)
  | .dict _, _, h => by cases h
theorem Dn.dpAll {K : PySem.W.Frag} {S : AS} {H : Hp} : ∀ (ds : List PyData) (vs : List V), DnAll K S H vs ds → DpAll K H vs ds
  | [], _, h => by cases h; exact .nil
  | d :: ds, _, h => by
    cases h with
    | cons h1 h2 => exact .cons (Dn.dp d _ h1) (Dn.dpAll ds _ h2)
end
/-! ### frames, slots -/
/-- S: addresses that no data touches; C: those of them that may change; J: what holds of them -/
structure Fm where
  S : AS
  C : CS
  J : Hp → Prop
  sub : ∀ a o, C a o → S a ∨ Tb o
  mono : ∀ H H', Xt C0 H H' → J H → J H'
def Fm.ok (F : Fm) (H : Hp) : Prop := F.J H ∧ ∀ a, F.S a → H a ≠ none
/-- J speaks of no list that data may reach -/
def Fm.soft (F : Fm) : Prop := ∀ H H', (∀ a o, F.S a ∨ (∀ xs, o ≠ HO.lst xs) → H a = some o → H' a = some o) → F.J H → F.J H'
/-- nothing changes -/
def Fm.pure (S : AS) : Fm := ⟨S, C0, fun _ => True, fun _ _ z => z.elim, fun _ _ _ _ => trivial⟩
theorem Fm.soft_pure {S : AS} : (Fm.pure S).soft := fun _ _ _ _ => trivial
inductive Sl where
  | dat (d : PyData)
  | raw (v : V)
abbrev DE := List (Option Sl)
def SlD (K : PySem.W.Frag) (S : AS) (H : Hp) (v : V) : Sl → Prop
  | .dat d => Dn K S H v d
  | .raw w => v = w
structure StD (K : PySem.W.Frag) (S : AS) (H : Hp) (σ : L2.St) (δ : DE) : Prop where
  len : σ.length = δ.length
  at_ : ∀ (i : Nat) (s : Sl), δ[i]? = some (some s) → ∃ v, σ[i]? = some (some v) ∧ SlD K S H v s
theorem SlD.mono {K : PySem.W.Frag} {S : AS} {C : CS} {H H' : Hp} {v : V} {s : Sl} (hC : ∀ a o, C a o → S a ∨ Tb o) (e : Xt C H H') (h : SlD K S H v s) : SlD K S H' v s := by
  cases s with
  | dat d => exact Dn.mono hC e d v h
  | raw w => exact h
theorem StD.mono {K : PySem.W.Frag} {S : AS} {C : CS} {H H' : Hp} {σ : L2.St} {δ : DE} (hC : ∀ a o, C a o → S a ∨ Tb o) (e : Xt C H H') (h : StD K S H σ δ) : StD K S H' σ δ :=
  ⟨h.len, fun i s q => let ⟨v, h1, h2⟩ := h.at_ i s q; ⟨v, h1, h2.mono hC e⟩⟩
theorem StD.set {K : PySem.W.Frag} {S : AS} {H : Hp} {σ : L2.St} {δ : DE} (h : StD K S H σ δ) {v : V} {s : Sl} (j : Nat) (hv : SlD K S H v s) : StD K S H (σ.set j (some v)) (δ.set j (some s)) := by
  refine ⟨by simp [h.len], fun i t q => ?_⟩
  by_cases hj : j = i
  · subst hj
    rw [List.getElem?_set] at q
    split at q
    · rename_i hl
      split at q
      · rename_i hl2
        cases q
        refine ⟨v, ?_, hv⟩
        rw [List.getElem?_set]
        rw [if_pos rfl, if_pos (by rw [h.len]; exact hl2)]
      · cases q
    · rename_i z; exact absurd rfl z
  · rw [List.getElem?_set_ne hj] at q
    obtain ⟨w, h1, h2⟩ := h.at_ i t q
    exact ⟨w, by rw [List.getElem?_set_ne hj]; exact h1, h2⟩
theorem StD.setD {K : PySem.W.Frag} {S : AS} {H : Hp} {σ : L2.St} {δ : DE} (h : StD K S H σ δ) {v : V} {d : PyData} (j : Nat) (hv : Dn K S H v d) : StD K S H (σ.set j (some v)) (δ.set j (some (.dat d))) := h.set (s := .dat d) j hv
theorem Fm.ok.mono {F : Fm} {H H' : Hp} (h : F.ok H) (e : Xt C0 H H') : F.ok H' := ⟨F.mono _ _ e h.1, fun a s z => by
  cases q : H a with
  | none => exact h.2 a s q
  | some o => rw [e.k a o (fun z => z) q] at z; cases z⟩
/-- what no data touches stands as it was -/
theorem Fm.ok.same {F : Fm} {H H' : Hp} (hs : F.soft) (h : F.ok H) (e : ∀ a o, F.S a ∨ (∀ xs, o ≠ HO.lst xs) → H a = some o → H' a = some o) : F.ok H' := ⟨hs _ _ e h.1, fun a s z => by
  cases q : H a with
  | none => exact h.2 a s q
  | some o => rw [e a o (.inl s) q] at z; cases z⟩
theorem Fm.ok.fresh {F : Fm} {H : Hp} {p : Addr} (h : F.ok H) (hp : H p = none) : ¬ F.S p := fun s => h.2 p s hp
theorem SlD.less {K : PySem.W.Frag} {S T : AS} {H : Hp} {v : V} {s : Sl} (hT : ∀ a, H a ≠ none → T a → S a) (h : SlD K S H v s) : SlD K T H v s := by
  cases s with
  | dat d => exact Dn.less hT d v h
  | raw w => exact h
theorem StD.less {K : PySem.W.Frag} {S T : AS} {H : Hp} {σ : L2.St} {δ : DE} (hT : ∀ a, H a ≠ none → T a → S a) (h : StD K S H σ δ) : StD K T H σ δ :=
  ⟨h.len, fun i s q => let ⟨v, h1, h2⟩ := h.at_ i s q; ⟨v, h1, h2.less hT⟩⟩
/-- one address more that no data touches -/
def Fm.more (F : Fm) (D : Addr) : Fm := ⟨fun a => F.S a ∨ a = D, F.C, F.J, fun a o z => (F.sub a o z).imp .inl id, F.mono⟩
theorem Fm.soft_more {F : Fm} {D : Addr} (h : F.soft) : (F.more D).soft := fun H H' e => h H H' fun a o s => e a o (s.imp .inl id)
theorem Fm.ok.more {F : Fm} {H : Hp} {D : Addr} (h : F.ok H) (hd : H D ≠ none) : (F.more D).ok H := ⟨h.1, fun a s => by
  rcases s with s | s
  · exact h.2 a s
  · subst s; exact hd⟩
theorem Fm.ok.less {F : Fm} {H : Hp} {D : Addr} (h : (F.more D).ok H) : F.ok H := ⟨h.1, fun a s => h.2 a (.inl s)⟩
/-! ### a piece of syntax as its own reading -/
def semE (X : Cx) (e : Expr) : TE := fun σ H Q => ∀ (pins : List (Addr × Obj)) (s : Shared), Inv X pins σ H s → wpAny (model X.prog X.w) X.A (eval e X.env) (EP X pins σ Q) X.xe s
theorem pe_sem (X : Cx) (e : Expr) : PE X e (semE X e) := ⟨fun pins s σ H Q I h => h pins s I⟩
theorem _root_.L2.PE.sem {X : Cx} {e : Expr} {t : TE} (h : PE X e t) {σ : L2.St} {H : Hp} {Q : VK} (q : t σ H Q) : semE X e σ H Q := fun pins s I => h.run pins s σ H Q I q
def semT (X : Cx) (e : Expr) : TT := fun σ H Q => ∀ (pins : List (Addr × Obj)) (s : Shared), Inv X pins σ H s → wpAny (model X.prog X.w) X.A (isTrue e X.env (eval e X.env)) (TP X pins σ Q) X.xe s
theorem pt_sem (X : Cx) (e : Expr) : PT X e (semT X e) := ⟨fun pins s σ H Q I h => h pins s I⟩
theorem _root_.L2.PT.sem {X : Cx} {e : Expr} {t : TT} (h : PT X e t) {σ : L2.St} {H : Hp} {Q : Bool → Hp → Prop} (q : t σ H Q) : semT X e σ H Q := fun pins s I => h.run pins s σ H Q I q
def semA (X : Cx) (es : List Expr) : TA := fun σ H Q => ∀ (pos : Pos) (pins : List (Addr × Obj)) (s : Shared), Inv X pins σ H s → wpAny (model X.prog X.w) X.A (spliced (backTo pos (starEach es X.env))) (AP X pins σ Q) X.xe s
theorem pa_sem (X : Cx) (es : List Expr) : PA X es (semA X es) := ⟨fun pos pins s σ H Q I h => h pos pins s I⟩
theorem _root_.L2.PA.sem {X : Cx} {es : List Expr} {t : TA} (h : PA X es t) {σ : L2.St} {H : Hp} {Q : List V → Hp → Prop} (q : t σ H Q) : semA X es σ H Q := fun pos pins s I => h.run pos pins s σ H Q I q
def semS (X : Cx) (st : Stmt) : TS := fun D σ H => ∀ (pins : List (Addr × Obj)) (s : Shared), Inv X pins σ H s → wpAny (model X.prog X.w) X.A (exec st X.env) (SP X pins D) X.xe s
def semSs (X : Cx) (st : List Stmt) : TS := fun D σ H => ∀ (pins : List (Addr × Obj)) (s : Shared), Inv X pins σ H s → wpAny (model X.prog X.w) X.A (execs st X.env) (SP X pins D) X.xe s
theorem pss_sem (X : Cx) (st : List Stmt) : PSs X st (semSs X st) := ⟨fun pins s σ H D I h => h pins s I⟩
theorem _root_.L2.PSs.sem {X : Cx} {st : List Stmt} {t : TS} (h : PSs X st t) {σ : L2.St} {H : Hp} {D : Ends} (q : t D σ H) : semSs X st D σ H := fun pins s I => h.run pins s σ H D I q
theorem _root_.L2.PS.sem {X : Cx} {st : Stmt} {t : TS} (h : PS X st t) {σ : L2.St} {H : Hp} {D : Ends} (q : t D σ H) : semS X st D σ H := fun pins s I => h.run pins s σ H D I q
/-! ### the judgements -/
/-- e comes to some data of which k holds -/
def VE (F : Fm) (X : Cx) (e : Expr) (δ : DE) (k : PyData → Prop) : Prop := ∀ (σ : L2.St) (H : Hp) (Q : VK), F.ok H → StD X.K F.S H σ δ →
  (∀ (v : V) (H' : Hp) (d : PyData), Xt F.C H H' → F.ok H' → Dn X.K F.S H' v d → k d → Q v H') → semE X e σ H Q
/-- e comes to d -/
abbrev VD (F : Fm) (X : Cx) (e : Expr) (δ : DE) (d : PyData) : Prop := VE F X e δ fun x => x = d
def VT (F : Fm) (X : Cx) (e : Expr) (δ : DE) (k : Bool → Prop) : Prop := ∀ (σ : L2.St) (H : Hp) (Q : Bool → Hp → Prop), F.ok H → StD X.K F.S H σ δ →
  (∀ (b : Bool) (H' : Hp), Xt F.C H H' → F.ok H' → k b → Q b H') → semT X e σ H Q
abbrev VB (F : Fm) (X : Cx) (e : Expr) (δ : DE) (b : Bool) : Prop := VT F X e δ fun x => x = b
def VA (F : Fm) (X : Cx) (es : List Expr) (δ : DE) (k : List PyData → Prop) : Prop := ∀ (σ : L2.St) (H : Hp) (Q : List V → Hp → Prop), F.ok H → StD X.K F.S H σ δ →
  (∀ (vs : List V) (H' : Hp) (ds : List PyData), Xt F.C H H' → F.ok H' → DnAll X.K F.S H' vs ds → k ds → Q vs H') → semA X es σ H Q
abbrev VL (F : Fm) (X : Cx) (es : List Expr) (δ : DE) (ds : List PyData) : Prop := VA F X es δ fun x => x = ds
structure Out where
  nx : DE → Prop
  rt : PyData → Prop
  bk : DE → Prop := fun _ => False
  ct : DE → Prop := fun _ => False
structure EndsOk (F : Fm) (K : PySem.W.Frag) (H : Hp) (R : Out) (D : Ends) : Prop where
  nx : ∀ σ' H' δ', Xt F.C H H' → F.ok H' → StD K F.S H' σ' δ' → R.nx δ' → D.nx σ' H'
  bk : ∀ σ' H' δ', Xt F.C H H' → F.ok H' → StD K F.S H' σ' δ' → R.bk δ' → D.bk σ' H'
  ct : ∀ σ' H' δ', Xt F.C H H' → F.ok H' → StD K F.S H' σ' δ' → R.ct δ' → D.ct σ' H'
  rt : ∀ v H' d, Xt F.C H H' → F.ok H' → Dn K F.S H' v d → R.rt d → D.rt v H'
theorem EndsOk.mono {F : Fm} {K : PySem.W.Frag} {H H' : Hp} {R : Out} {D : Ends} (h : EndsOk F K H R D) (e : Xt F.C H H') : EndsOk F K H' R D :=
  ⟨fun σ' H2 δ' e2 => h.nx σ' H2 δ' (e.trans e2), fun σ' H2 δ' e2 => h.bk σ' H2 δ' (e.trans e2), fun σ' H2 δ' e2 => h.ct σ' H2 δ' (e.trans e2), fun v H2 d e2 => h.rt v H2 d (e.trans e2)⟩
def VS (F : Fm) (X : Cx) (sts : List Stmt) (δ : DE) (R : Out) : Prop := ∀ (σ : L2.St) (H : Hp) (D : Ends), F.ok H → StD X.K F.S H σ δ → EndsOk F X.K H R D → semSs X sts D σ H
end Dl
set_option Elab.async false
set_option linter.all false
set_option maxRecDepth 100000
set_option maxHeartbeats 4000000
namespace Dl
open PySem PySem.Spec PyProof.Rows L2
/-! ### expressions -/
section
variable {F : Fm} {X : Cx} {δ : DE} {k k' : PyData → Prop}
theorem VE.mono {e : Expr} (h : VE F X e δ k) (w : ∀ d, k d → k' d) : VE F X e δ k' := fun σ H Q o s q => h σ H Q o s fun v H' d x o' n kd => q v H' d x o' n (w d kd)
theorem VE.to {e : Expr} {d : PyData} (h : VD F X e δ d) (w : k d) : VE F X e δ k := h.mono fun x e => by subst e; exact w
theorem VD.is {e : Expr} {d d' : PyData} (h : VD F X e δ d) (w : d = d') : VD F X e δ d' := by subst w; exact h
theorem VT.mono {e : Expr} {k k' : Bool → Prop} (h : VT F X e δ k) (w : ∀ d, k d → k' d) : VT F X e δ k' := fun σ H Q o s q => h σ H Q o s fun b H' x o' kd => q b H' x o' (w b kd)
theorem VT.to {e : Expr} {k : Bool → Prop} {b : Bool} (h : VB F X e δ b) (w : k b) : VT F X e δ k := h.mono fun x e => by subst e; exact w
theorem VB.is {e : Expr} {d d' : Bool} (h : VB F X e δ d) (w : d = d') : VB F X e δ d' := by subst w; exact h
theorem VA.mono {es : List Expr} {k k' : List PyData → Prop} (h : VA F X es δ k) (w : ∀ d, k d → k' d) : VA F X es δ k' := fun σ H Q o s q => h σ H Q o s fun v H' d x o' n kd => q v H' d x o' n (w d kd)
theorem VA.to {es : List Expr} {k : List PyData → Prop} {d : List PyData} (h : VL F X es δ d) (w : k d) : VA F X es δ k := h.mono fun x e => by subst e; exact w
theorem Fm.ok.all {F : Fm} {H : Hp} (o : F.ok H) {σ : L2.St} {δ : DE} {K : PySem.W.Frag} (s : StD K F.S H σ δ) {H' : Hp} (e : Xt F.C H H') : StD K F.S H' σ δ := s.mono F.sub e
theorem vd_var (i : Nat) {x : Str} {pos : Pos} {d : PyData} (hd : δ[i]? = some (some (.dat d)) := by rfl) (hN : X.N[i]? = some x := by rfl) (hv : Vis X.env.scope x := by first | exact Or.inl rfl | exact Or.inr (Or.inl rfl) | exact Or.inr (Or.inr rfl))
    (hdb : (x == ("__debug__" : Str)) = false := by decide) (hcd : (x == ("__classdict__" : Str)) = false := by decide) : VD F X (.Name x pos) δ d := fun σ H Q o s q =>
  (pe_var hN hv hdb hcd).sem (by
    obtain ⟨v, h1, h2⟩ := s.at_ i _ hd
    exact ⟨v, h1, q v H d (.refl H) o h2 rfl⟩)
theorem vd_c {e : Expr} {v : V} {d : PyData} (h : PE X e (tC v)) (hs : scV d = some v) : VD F X e δ d := fun σ H Q o s q => h.sem (show Q v H from q v H d (.refl H) o (dn_sc hs) rfl)
theorem vd_int {i : Int} {j pos} : VD F X (.Constant (.int i) j pos) δ (.int i) := vd_c pe_int rfl
theorem vd_bl {b : Bool} {j pos} : VD F X (.Constant (.bool b) j pos) δ (.bool b) := vd_c pe_bl rfl
theorem vd_non {j pos} : VD F X (.Constant .none j pos) δ .none := vd_c pe_non rfl
theorem vd_str {x : Str} {j pos} : VD F X (.Constant (.str x) j pos) δ (.str x) := vd_c pe_str rfl
theorem vd_gint {x : Str} {pos : Pos} {i : Int} {t : Tok} (hm : X.mg x = some (.int i t)) (hg : Gl X x := by rfl) (hd : (x == ("__debug__" : Str)) = false := by decide) : VD F X (.Name x pos) δ (.int i) := vd_c (pe_glob (v := .int i) hg hm ⟨t, rfl⟩ hd) rfl
/-- r of x and y gives z -/
def OpD (K : PySem.W.Frag) (r : R2) (x y z : PyData) : Prop := ∀ (S : AS) (H : Hp) (vx vy : V) (Q : VK), (∀ a, S a → H a ≠ none) → Dn K S H vx x → Dn K S H vy y → (∀ v H', Xt C0 H H' → Dn K S H' v z → Q v H') → r vx vy H Q
theorem opd_I0 {K : PySem.W.Frag} {g : Int → Int → V} {i j : Int} {z : PyData} (hz : scV z = some (g i j)) : OpD K (rI0 g) (.int i) (.int j) z := fun S H vx vy Q _ hx hy q => ⟨i, j, hx.sc rfl, hy.sc rfl, q _ H (.refl H) (dn_sc hz)⟩
theorem ve_two {a b e : Expr} {r : R2} (he : PE X e (tOp r (semE X a) (semE X b))) (ha : VE F X a δ fun x => VE F X b δ fun y => ∃ z, OpD X.K r x y z ∧ k z) : VE F X e δ k := fun σ H Q o s q =>
  he.sem (ha σ H _ o s fun x H1 dx e1 o1 nx kx => kx σ H1 _ o1 (o.all s e1) fun y H2 dy e2 o2 ny ⟨z, hop, kz⟩ =>
    hop F.S H2 x y Q o2.2 (Dn.mono F.sub e2 _ _ nx) ny fun v H' e3 nz => q v H' z ((e1.trans e2).trans e3.of0) (o2.mono e3) nz kz)
theorem vd_two {a b e : Expr} {r : R2} {x y z : PyData} (he : PE X e (tOp r (semE X a) (semE X b))) (hop : OpD X.K r x y z) (ha : VD F X a δ x) (hb : VD F X b δ y) : VD F X e δ z :=
  ve_two he (ha.to (hb.to ⟨z, hop, rfl⟩))
theorem ve_op {a b : Expr} {op : Operator} {r : R2} {pos : Pos} (ho : OpR X (binaryOp op) r) (ha : VE F X a δ fun x => VE F X b δ fun y => ∃ z, OpD X.K r x y z ∧ k z) : VE F X (.BinOp a op b pos) δ k := ve_two (pe_op ho (pe_sem X a) (pe_sem X b)) ha
theorem vd_op {a b : Expr} {op : Operator} {r : R2} {pos : Pos} {x y z : PyData} (ho : OpR X (binaryOp op) r) (hop : OpD X.K r x y z) (ha : VD F X a δ x) (hb : VD F X b δ y) : VD F X (.BinOp a op b pos) δ z := vd_two (pe_op ho (pe_sem X a) (pe_sem X b)) hop ha hb
section
variable {a b : Expr} {pos : Pos} {i j : Int}
theorem vd_add (ha : VD F X a δ (.int i)) (hb : VD F X b δ (.int j)) : VD F X (.BinOp a .Add b pos) δ (.int (i + j)) := vd_op op_add (opd_I0 rfl) ha hb
theorem vd_sub (ha : VD F X a δ (.int i)) (hb : VD F X b δ (.int j)) : VD F X (.BinOp a .Sub b pos) δ (.int (i - j)) := vd_op op_sub (opd_I0 rfl) ha hb
theorem ve_add (ha : VE F X a δ fun x => VE F X b δ fun y => ∃ i j, x = .int i ∧ y = .int j ∧ k (.int (i + j))) : VE F X (.BinOp a .Add b pos) δ k :=
  ve_op op_add (ha.mono fun x hb => hb.mono fun y ⟨i, j, e1, e2, w⟩ => ⟨.int (i + j), by subst e1 e2; exact opd_I0 rfl, w⟩)
theorem ve_sub (ha : VE F X a δ fun x => VE F X b δ fun y => ∃ i j, x = .int i ∧ y = .int j ∧ k (.int (i - j))) : VE F X (.BinOp a .Sub b pos) δ k :=
  ve_op op_sub (ha.mono fun x hb => hb.mono fun y ⟨i, j, e1, e2, w⟩ => ⟨.int (i - j), by subst e1 e2; exact opd_I0 rfl, w⟩)
theorem vd_neg (ha : VD F X a δ (.int i)) : VD F X (.UnaryOp .USub a pos) δ (.int (-i)) := fun σ H Q o s q =>
  (pe_un un_neg (pe_sem X a)).sem (ha σ H _ o s fun x H1 dx e1 o1 nx kx => by subst kx; exact ⟨i, nx.sc rfl, q _ H1 _ e1 o1 (.int _) rfl⟩)
/-! comparisons -/
theorem vd_cmp {op : CmpOp} {r : R2} {x y z : PyData} (ho : OpR X (compareOp op) r) (hm : behindInMarks op b = false) (hop : OpD X.K r x y z) (ha : VD F X a δ x) (hb : VD F X b δ y) : VD F X (.Compare a [op] [b] pos) δ z := vd_two (pe_cmpR ho (pe_sem X a) (pe_sem X b) hm) hop ha hb
theorem vt_cmp {op : CmpOp} {r : R2} {k : Bool → Prop} (ho : OpR X (compareOp op) r) (hm : behindInMarks op b = false) (ha : VE F X a δ fun x => VE F X b δ fun y => ∃ z, OpD X.K r x y (.bool z) ∧ k z) : VT F X (.Compare a [op] [b] pos) δ k := fun σ H Q o s q =>
  (pt_cmpR ho (pe_sem X a) (pe_sem X b) hm).sem (ha σ H _ o s fun x H1 dx e1 o1 nx kx => kx σ H1 _ o1 (o.all s e1) fun y H2 dy e2 o2 ny ⟨z, hop, kz⟩ =>
    hop F.S H2 x y _ o2.2 (Dn.mono F.sub e2 _ _ nx) ny fun v H' e3 nz => ⟨z, nz.sc rfl, q z H' ((e1.trans e2).trans e3.of0) (o2.mono e3) kz⟩)
theorem vb_cmp {op : CmpOp} {r : R2} {x y : PyData} {z : Bool} (ho : OpR X (compareOp op) r) (hm : behindInMarks op b = false) (hop : OpD X.K r x y (.bool z)) (ha : VD F X a δ x) (hb : VD F X b δ y) : VB F X (.Compare a [op] [b] pos) δ z := vt_cmp ho hm (ha.to (hb.to ⟨z, hop, rfl⟩))
theorem vd_le (ha : VD F X a δ (.int i)) (hb : VD F X b δ (.int j)) : VD F X (.Compare a [.LtE] [b] pos) δ (.bool (decide (i ≤ j))) := vd_cmp op_le (nomark _) (opd_I0 rfl) ha hb
theorem vd_ge (ha : VD F X a δ (.int i)) (hb : VD F X b δ (.int j)) : VD F X (.Compare a [.GtE] [b] pos) δ (.bool (decide (j ≤ i))) := vd_cmp op_ge (nomark _) (opd_I0 rfl) ha hb
theorem vb_lt (ha : VD F X a δ (.int i)) (hb : VD F X b δ (.int j)) : VB F X (.Compare a [.Lt] [b] pos) δ (decide (i < j)) := vb_cmp op_lt (nomark _) (opd_I0 rfl) ha hb
theorem opd_eq {K : PySem.W.Frag} {x y : PyData} {vx vy : V} (hx : scV x = some vx) (hy : scV y = some vy) (h : scal vx vy = true) : OpD K rEq x y (.bool (decide (vx = vy))) := fun S H ux uy Q _ nx ny q => by
  rw [nx.sc hx, ny.sc hy]
  exact ⟨h, q _ H (.refl H) (.bl _)⟩
theorem opd_ne {K : PySem.W.Frag} {x y : PyData} {vx vy : V} (hx : scV x = some vx) (hy : scV y = some vy) (h : scal vx vy = true) : OpD K rNe x y (.bool (!decide (vx = vy))) := fun S H ux uy Q _ nx ny q => by
  rw [nx.sc hx, ny.sc hy]
  exact ⟨h, q _ H (.refl H) (.bl _)⟩
theorem dec_int (i j : Int) : decide (V.int i = V.int j) = decide (i = j) := by
  by_cases h : i = j
  · rw [decide_eq_true h, h]; simp
  · rw [decide_eq_false h, decide_eq_false fun z => h (V.int.inj z)]
theorem dec_str (i j : Str) : decide (V.str i = V.str j) = decide (i = j) := by
  by_cases h : i = j
  · rw [decide_eq_true h, h]; simp
  · rw [decide_eq_false h, decide_eq_false fun z => h (V.str.inj z)]
theorem dec_bl (i j : Bool) : decide (V.bl i = V.bl j) = decide (i = j) := by
  by_cases h : i = j
  · rw [decide_eq_true h, h]; simp
  · rw [decide_eq_false h, decide_eq_false fun z => h (V.bl.inj z)]
theorem opd_eqI {K : PySem.W.Frag} : OpD K rEq (.int i) (.int j) (.bool (decide (i = j))) := by rw [← dec_int]; exact opd_eq rfl rfl rfl
theorem opd_neI {K : PySem.W.Frag} : OpD K rNe (.int i) (.int j) (.bool (!decide (i = j))) := by rw [← dec_int]; exact opd_ne rfl rfl rfl
theorem opd_eqS {K : PySem.W.Frag} {x y : Str} : OpD K rEq (.str x) (.str y) (.bool (decide (x = y))) := by rw [← dec_str]; exact opd_eq rfl rfl rfl
theorem opd_neS {K : PySem.W.Frag} {x y : Str} : OpD K rNe (.str x) (.str y) (.bool (!decide (x = y))) := by rw [← dec_str]; exact opd_ne rfl rfl rfl
theorem opd_eqB {K : PySem.W.Frag} {x y : Bool} : OpD K rEq (.bool x) (.bool y) (.bool (decide (x = y))) := by rw [← dec_bl]; exact opd_eq rfl rfl rfl
theorem opd_neB {K : PySem.W.Frag} {x y : Bool} : OpD K rNe (.bool x) (.bool y) (.bool (!decide (x = y))) := by rw [← dec_bl]; exact opd_ne rfl rfl rfl
theorem vd_eqI (ha : VD F X a δ (.int i)) (hb : VD F X b δ (.int j)) : VD F X (.Compare a [.Eq] [b] pos) δ (.bool (decide (i = j))) := vd_cmp op_eq (nomark _) opd_eqI ha hb
theorem vb_neI (ha : VD F X a δ (.int i)) (hb : VD F X b δ (.int j)) : VB F X (.Compare a [.NotEq] [b] pos) δ (!decide (i = j)) := vb_cmp op_ne (nomark _) opd_neI ha hb
theorem vd_eqS {x y : Str} (ha : VD F X a δ (.str x)) (hb : VD F X b δ (.str y)) : VD F X (.Compare a [.Eq] [b] pos) δ (.bool (decide (x = y))) := vd_cmp op_eq (nomark _) opd_eqS ha hb
theorem vb_eqS {x y : Str} (ha : VD F X a δ (.str x)) (hb : VD F X b δ (.str y)) : VB F X (.Compare a [.Eq] [b] pos) δ (decide (x = y)) := vb_cmp op_eq (nomark _) opd_eqS ha hb
theorem vb_neS {x y : Str} (ha : VD F X a δ (.str x)) (hb : VD F X b δ (.str y)) : VB F X (.Compare a [.NotEq] [b] pos) δ (!decide (x = y)) := vb_cmp op_ne (nomark _) opd_neS ha hb
theorem vd_eqB {x y : Bool} (ha : VD F X a δ (.bool x)) (hb : VD F X b δ (.bool y)) : VD F X (.Compare a [.Eq] [b] pos) δ (.bool (decide (x = y))) := vd_cmp op_eq (nomark _) opd_eqB ha hb
theorem vb_neB {x y : Bool} (ha : VD F X a δ (.bool x)) (hb : VD F X b δ (.bool y)) : VB F X (.Compare a [.NotEq] [b] pos) δ (!decide (x = y)) := vb_cmp op_ne (nomark _) opd_neB ha hb
/-- plain values of different kinds too -/
theorem vd_eqV {x y : PyData} {vx vy : V} (ha : VD F X a δ x) (hb : VD F X b δ y) (hx : scV x = some vx) (hy : scV y = some vy) (h : scal vx vy = true) : VD F X (.Compare a [.Eq] [b] pos) δ (.bool (decide (vx = vy))) := vd_cmp op_eq (nomark _) (opd_eq hx hy h) ha hb
theorem opd_eqD {K : PySem.W.Frag} {x y : PyData} (hx : SeqAt.shaped x = true) (hy : SeqAt.shaped y = true) : OpD K (rEqD K) x y (.bool (PyData.eqv x y)) := fun S H ux uy Q _ nx ny q => ⟨x, y, nx.dp, ny.dp, hx, hy, q _ H (.refl H) (.bl _)⟩
theorem opd_neD {K : PySem.W.Frag} {x y : PyData} (hx : SeqAt.shaped x = true) (hy : SeqAt.shaped y = true) : OpD K (rNeD K) x y (.bool (!PyData.eqv x y)) := fun S H ux uy Q _ nx ny q => ⟨x, y, nx.dp, ny.dp, hx, hy, q _ H (.refl H) (.bl _)⟩
theorem vd_eqD {x y : PyData} (hu : X.A.units + 64 < cLine) (ha : VD F X a δ x) (hb : VD F X b δ y) (hx : SeqAt.shaped x = true) (hy : SeqAt.shaped y = true) : VD F X (.Compare a [.Eq] [b] pos) δ (.bool (PyData.eqv x y)) := vd_cmp (op_eqD hu) (nomark _) (opd_eqD hx hy) ha hb
theorem vb_neD {x y : PyData} (hu : X.A.units + 64 < cLine) (ha : VD F X a δ x) (hb : VD F X b δ y) (hx : SeqAt.shaped x = true) (hy : SeqAt.shaped y = true) : VB F X (.Compare a [.NotEq] [b] pos) δ (!PyData.eqv x y) := vb_cmp (op_neD hu) (nomark _) (opd_neD hx hy) ha hb
/-- is None -/
def isNon : PyData → Bool
  | .none => true
  | _ => false
theorem opd_isN {K : PySem.W.Frag} {x : PyData} : OpD K (fun x y H Q => y = .non ∧ Q (.bl (decide (x = .non))) H) x .none (.bool (isNon x)) := fun S H ux uy Q _ nx ny q => ⟨ny.sc rfl, by
  have e : decide (ux = V.non) = isNon x := by cases nx <;> rfl
  rw [e]; exact q _ H (.refl H) (.bl _)⟩
theorem opd_notN {K : PySem.W.Frag} {x : PyData} : OpD K (fun x y H Q => y = .non ∧ Q (.bl (!decide (x = .non))) H) x .none (.bool (!isNon x)) := fun S H ux uy Q _ nx ny q => ⟨ny.sc rfl, by
  have e : decide (ux = V.non) = isNon x := by cases nx <;> rfl
  rw [e]; exact q _ H (.refl H) (.bl _)⟩
theorem vd_isN {x : PyData} (ha : VD F X a δ x) (hb : VD F X b δ .none) : VD F X (.Compare a [.Is] [b] pos) δ (.bool (isNon x)) := vd_cmp op_isN (nomark _) opd_isN ha hb
theorem vb_isN {x : PyData} (ha : VD F X a δ x) (hb : VD F X b δ .none) : VB F X (.Compare a [.Is] [b] pos) δ (isNon x) := vb_cmp op_isN (nomark _) opd_isN ha hb
theorem vb_notN {x : PyData} (ha : VD F X a δ x) (hb : VD F X b δ .none) : VB F X (.Compare a [.IsNot] [b] pos) δ (!isNon x) := vb_cmp op_notN (nomark _) opd_notN ha hb
/-- a plain value in a list or tuple of plain values -/
def scD : PyData → Bool
  | .none => true
  | .bool _ => true
  | .int _ => true
  | .str _ => true
  | _ => false
def eqF : PyData → PyData → Bool
  | .none, .none => true
  | .bool a, .bool b => a == b
  | .bool a, .int b => (if a then 1 else 0) == b
  | .int a, .bool b => a == (if b then 1 else 0)
  | .int a, .int b => a == b
  | .str a, .str b => a == b
  | _, _ => false
def inF (x : PyData) (ys : List PyData) : Bool := ys.any fun y => eqF y x
theorem Dn.flat {K : PySem.W.Frag} {S : AS} {H : Hp} {v : V} {d : PyData} (h : Dn K S H v d) (e : scD d = true) : flatV v = true := by
  cases h <;> first | rfl | simp [scD] at e
theorem eqF_V {K : PySem.W.Frag} {S : AS} {H : Hp} {v u : V} {d e : PyData} (h : Dn K S H v d) (g : Dn K S H u e) (hd : scD d = true) (he : scD e = true) : eqV v u = eqF d e := by
  cases h <;> first | (simp [scD] at hd; done) | (cases g <;> first | rfl | (simp [scD] at he; done))
theorem DnAll.flat {K : PySem.W.Frag} {S : AS} {H : Hp} : ∀ {vs : List V} {ds : List PyData}, DnAll K S H vs ds → ds.all scD = true → vs.all flatV = true
  | _, _, .nil, _ => rfl
  | _, _, .cons h t, e => by
    simp only [List.all_cons, Bool.and_eq_true] at e ⊢
    exact ⟨h.flat e.1, t.flat e.2⟩
theorem inF_V {K : PySem.W.Frag} {S : AS} {H : Hp} {u : V} {e : PyData} (g : Dn K S H u e) (he : scD e = true) : ∀ {vs : List V} {ds : List PyData}, DnAll K S H vs ds → ds.all scD = true → inV u vs = inF e ds
  | _, _, .nil, _ => rfl
  | _, _, .cons h t, q => by
    simp only [List.all_cons, Bool.and_eq_true] at q
    have ih := inF_V g he t q.2
    unfold inV inF at ih ⊢
    rw [List.any_cons, List.any_cons, ih, eqF_V h g q.1 he]
def seqOf : PyData → Option (List PyData)
  | .list ds => some ds
  | .tuple ds => some ds
  | _ => none
theorem Dn.seq {K : PySem.W.Frag} {S : AS} {H : Hp} {v : V} {d : PyData} {ds : List PyData} (h : Dn K S H v d) (e : seqOf d = some ds) : ∃ p xs, v = .ref p ∧ (SqL K H p xs ∨ SqT K H p xs) ∧ DnAll K S H xs ds := by
  cases h with
  | lst s a => simp [seqOf] at e; subst e; exact ⟨_, _, rfl, .inl s.sq, a⟩
  | tup s a => simp [seqOf] at e; subst e; exact ⟨_, _, rfl, .inr s.sq, a⟩
  | _ => simp [seqOf] at e
theorem opd_in {K : PySem.W.Frag} {x y : PyData} {ds : List PyData} (hx : scD x = true) (hy : seqOf y = some ds) (hd : ds.all scD = true) : OpD K (rIn K false) x y (.bool (inF x ds)) := fun S H ux uy Q _ nx ny q => by
  obtain ⟨p, xs, rfl, hs, ha⟩ := ny.seq hy
  refine ⟨p, xs, rfl, hs, nx.flat hx, ha.flat hd, ?_⟩
  rw [inF_V nx hx ha hd]
  exact q _ H (.refl H) (.bl _)
theorem vd_in {x y : PyData} {ds : List PyData} (ha : VD F X a δ x) (hb : VD F X b δ y) (hm : behindInMarks .In b = false) (hx : scD x = true) (hy : seqOf y = some ds) (hd : ds.all scD = true) : VD F X (.Compare a [.In] [b] pos) δ (.bool (inF x ds)) := vd_cmp op_in_seq hm (opd_in hx hy hd) ha hb
theorem vb_in {x y : PyData} {ds : List PyData} (ha : VD F X a δ x) (hb : VD F X b δ y) (hm : behindInMarks .In b = false) (hx : scD x = true) (hy : seqOf y = some ds) (hd : ds.all scD = true) : VB F X (.Compare a [.In] [b] pos) δ (inF x ds) := vb_cmp op_in_seq hm (opd_in hx hy hd) ha hb
end
/-! ### chains -/
section
variable {a b c : Expr} {pos : Pos} {i j m : Int} {op op' : CmpOp} {r r' : R2}
theorem vd_chain {x y w : PyData} {z z' : Bool} (ho : OpR X (compareOp op) r) (ho' : OpR X (compareOp op') r') (h1 : OpD X.K r x y (.bool z)) (h2 : OpD X.K r' y w (.bool z')) (ha : VD F X a δ x) (hb : VD F X b δ y) (hc : VD F X c δ w)
    (hm : lastMarks [op, op'] [b, c] = false := by with_unfolding_all rfl) : VD F X (.Compare a [op, op'] [b, c] pos) δ (.bool (z && z')) := fun σ H Q o s q =>
  (pe_chain ho ho' (pe_sem X a) (pe_sem X b) (pe_sem X c) hm).sem (ha σ H _ o s fun vx H1 dx e1 o1 nx kx => hb σ H1 _ o1 (o.all s e1) fun vy H2 dy e2 o2 ny ky => by
    subst kx ky
    refine h1 F.S H2 vx vy _ o2.2 (Dn.mono F.sub e2 _ _ nx) ny fun v H3 e3 nz => ?_
    have o3 := o2.mono e3
    have e13 := (e1.trans e2).trans (e3.of0 (C := F.C))
    refine ⟨z, nz.sc rfl, ?_⟩
    cases z with
    | false => exact q _ H3 _ e13 o3 (.bl _) rfl
    | true =>
      refine hc σ H3 _ o3 (o.all s e13) fun vw H4 dw e4 o4 nw kw => ?_
      subst kw
      refine h2 F.S H4 vy vw _ o4.2 (Dn.mono F.sub (e3.of0.trans e4) _ _ ny) nw fun v5 H5 e5 n5 => q v5 H5 _ ((e13.trans e4).trans e5.of0) (o4.mono e5) n5 rfl)
/-- a <= b <= c of ints -/
theorem vd_lele (ha : VD F X a δ (.int i)) (hb : VD F X b δ (.int j)) (hc : VD F X c δ (.int m)) (hm : lastMarks [.LtE, .LtE] [b, c] = false := by with_unfolding_all rfl) : VD F X (.Compare a [.LtE, .LtE] [b, c] pos) δ (.bool (decide (i ≤ j) && decide (j ≤ m))) := vd_chain op_le op_le (opd_I0 rfl) (opd_I0 rfl) ha hb hc hm
end
/-! ### and, or, not, if -/
section
variable {a b c : Expr} {rest : List Expr} {pos : Pos} {x y : Bool}
theorem vd_one {op} {d : PyData} (h : VD F X a δ d) : VD F X (.BoolOp op [a] pos) δ d := fun σ H Q o s q => (pe_one (pe_sem X a)).sem (h σ H Q o s q)
theorem vd_and (ha : VD F X a δ (.bool x)) (hb : x = true → VD F X (.BoolOp .And (b :: rest) pos) δ (.bool y)) : VD F X (.BoolOp .And (a :: b :: rest) pos) δ (.bool (x && y)) := fun σ H Q o s q =>
  (pe_and (pe_sem X a) (pe_sem X _)).sem (ha σ H _ o s fun vx H1 dx e1 o1 nx kx => by
    subst kx
    refine ⟨x, nx.sc rfl, ?_⟩
    cases x with
    | false => exact q _ H1 _ e1 o1 (.bl _) rfl
    | true => exact hb rfl σ H1 Q o1 (o.all s e1) fun v H2 d e2 o2 n kd => q v H2 d (e1.trans e2) o2 n (by rw [kd]; rfl))
theorem vd_or (ha : VD F X a δ (.bool x)) (hb : x = false → VD F X (.BoolOp .Or (b :: rest) pos) δ (.bool y)) : VD F X (.BoolOp .Or (a :: b :: rest) pos) δ (.bool (x || y)) := fun σ H Q o s q =>
  (pe_or (pe_sem X a) (pe_sem X _)).sem (ha σ H _ o s fun vx H1 dx e1 o1 nx kx => by
    subst kx
    refine ⟨x, nx.sc rfl, ?_⟩
    cases x with
    | true => exact q _ H1 _ e1 o1 (.bl _) rfl
    | false => exact hb rfl σ H1 Q o1 (o.all s e1) fun v H2 d e2 o2 n kd => q v H2 d (e1.trans e2) o2 n (by rw [kd]; rfl))
theorem vd_not (ha : VD F X a δ (.bool x)) : VD F X (.UnaryOp .Not a pos) δ (.bool (!x)) := fun σ H Q o s q =>
  (pe_not (pe_sem X a)).sem (ha σ H _ o s fun vx H1 dx e1 o1 nx kx => by
    subst kx
    exact ⟨x, nx.sc rfl, q _ H1 _ e1 o1 (.bl _) rfl⟩)
/-- a test whose value is True or False -/
theorem vb_val (h : VD F X a δ (.bool x)) (he : ∀ whole, isTrue a X.env whole = (do let v ← whole; standAt a.pos; holding [v] (truthy v)) := by intro _; rfl) : VB F X a δ x := fun σ H Q o s q =>
  (pt_val (pe_sem X a) he).sem (h σ H _ o s fun vx H1 dx e1 o1 nx kx => by
    subst kx
    exact ⟨x, nx.sc rfl, q _ H1 e1 o1 rfl⟩)
/-- tests of and, or: VW, whatever the whole is -/
def VW (F : Fm) (X : Cx) (e : Expr) (δ : DE) (k : Bool → Prop) : Prop := ∀ (σ : L2.St) (H : Hp) (Q : Bool → Hp → Prop), F.ok H → StD X.K F.S H σ δ →
  (∀ (b : Bool) (H' : Hp), Xt F.C H H' → F.ok H' → k b → Q b H') → ∀ (whole : Sem Value) (pins : List (Addr × Obj)) (s : Shared), Inv X pins σ H s → wpAny (model X.prog X.w) X.A (isTrue e X.env whole) (TP X pins σ Q) X.xe s
theorem VW.vt {e : Expr} {k : Bool → Prop} (h : VW F X e δ k) : VT F X e δ k := fun σ H Q o s q pins sh I => h σ H Q o s q _ pins sh I
theorem _root_.L2.PW.semW {e : Expr} {t : TT} (h : PW X e t) {σ : L2.St} {H : Hp} {Q : Bool → Hp → Prop} (q : t σ H Q) : ∀ (whole : Sem Value) (pins : List (Addr × Obj)) (s : Shared), Inv X pins σ H s → wpAny (model X.prog X.w) X.A (isTrue e X.env whole) (TP X pins σ Q) X.xe s := fun whole pins s I => h.run whole pins s σ H Q I q
def semW (X : Cx) (e : Expr) : TT := fun σ H Q => ∀ (whole : Sem Value) (pins : List (Addr × Obj)) (s : Shared), Inv X pins σ H s → wpAny (model X.prog X.w) X.A (isTrue e X.env whole) (TP X pins σ Q) X.xe s
theorem pw_sem (X : Cx) (e : Expr) : PW X e (semW X e) := ⟨fun whole pins s σ H Q I h => h whole pins s I⟩
theorem vw_and1 {k : Bool → Prop} (ha : VT F X a δ k) : VW F X (.BoolOp .And [a] pos) δ k := fun σ H Q o s q => PW.semW (pw_and1 (pt_sem X a)) (ha σ H Q o s q)
theorem vw_or1 {k : Bool → Prop} (ha : VT F X a δ k) : VW F X (.BoolOp .Or [a] pos) δ k := fun σ H Q o s q => PW.semW (pw_or1 (pt_sem X a)) (ha σ H Q o s q)
theorem vw_and {k : Bool → Prop} (ha : VT F X a δ fun x => if x = true then VW F X (.BoolOp .And (b :: rest) pos) δ k else k false) : VW F X (.BoolOp .And (a :: b :: rest) pos) δ k := fun σ H Q o s q =>
  PW.semW (pw_and (pt_sem X a) (pw_sem X _)) (ha σ H _ o s fun x H1 e1 o1 kx => by
    cases x with
    | false => exact q _ H1 e1 o1 (by simpa using kx)
    | true =>
      have kx' : VW F X (.BoolOp .And (b :: rest) pos) δ k := by simpa using kx
      exact kx' σ H1 Q o1 (o.all s e1) fun y H2 e2 o2 ky => q y H2 (e1.trans e2) o2 ky)
theorem vw_or {k : Bool → Prop} (ha : VT F X a δ fun x => if x = true then k true else VW F X (.BoolOp .Or (b :: rest) pos) δ k) : VW F X (.BoolOp .Or (a :: b :: rest) pos) δ k := fun σ H Q o s q =>
  PW.semW (pw_or (pt_sem X a) (pw_sem X _)) (ha σ H _ o s fun x H1 e1 o1 kx => by
    cases x with
    | true => exact q _ H1 e1 o1 (by simpa using kx)
    | false =>
      have kx' : VW F X (.BoolOp .Or (b :: rest) pos) δ k := by simpa using kx
      exact kx' σ H1 Q o1 (o.all s e1) fun y H2 e2 o2 ky => q y H2 (e1.trans e2) o2 ky)
abbrev VWB (F : Fm) (X : Cx) (e : Expr) (δ : DE) (b : Bool) : Prop := VW F X e δ fun x => x = b
theorem VW.mono {e : Expr} {k k' : Bool → Prop} (h : VW F X e δ k) (w : ∀ d, k d → k' d) : VW F X e δ k' := fun σ H Q o s q => h σ H Q o s fun b H' x o' kd => q b H' x o' (w b kd)
theorem vwb_and1 (ha : VB F X a δ x) : VWB F X (.BoolOp .And [a] pos) δ x := vw_and1 ha
theorem vwb_or1 (ha : VB F X a δ x) : VWB F X (.BoolOp .Or [a] pos) δ x := vw_or1 ha
theorem vwb_and (ha : VB F X a δ x) (hb : x = true → VWB F X (.BoolOp .And (b :: rest) pos) δ y) : VWB F X (.BoolOp .And (a :: b :: rest) pos) δ (x && y) := vw_and (ha.to (by
  cases x with
  | true => simpa using hb rfl
  | false => simp))
theorem vwb_or (ha : VB F X a δ x) (hb : x = false → VWB F X (.BoolOp .Or (b :: rest) pos) δ y) : VWB F X (.BoolOp .Or (a :: b :: rest) pos) δ (x || y) := vw_or (ha.to (by
  cases x with
  | false => simpa using hb rfl
  | true => simp))
theorem vb_not (ha : VB F X a δ x) : VB F X (.UnaryOp .Not a pos) δ (!x) := fun σ H Q o s q => (pt_not (pt_sem X a)).sem (ha σ H _ o s fun b H1 e1 o1 kb => q _ H1 e1 o1 (by rw [kb]))
theorem ve_if (hc : VT F X c δ fun x => if x = true then VE F X a δ k else VE F X b δ k) : VE F X (.IfExp c a b pos) δ k := fun σ H Q o s q =>
  (pe_ifExp (pt_sem X c) (pe_sem X a) (pe_sem X b)).sem (hc σ H _ o s fun x H1 e1 o1 kx => by
    cases x with
    | true =>
      have kx' : VE F X a δ k := by simpa using kx
      exact kx' σ H1 Q o1 (o.all s e1) fun v H2 d e2 o2 n kd => q v H2 d (e1.trans e2) o2 n kd
    | false =>
      have kx' : VE F X b δ k := by simpa using kx
      exact kx' σ H1 Q o1 (o.all s e1) fun v H2 d e2 o2 n kd => q v H2 d (e1.trans e2) o2 n kd)
theorem vd_ite {d d' : PyData} (hc : VB F X c δ x) (ha : x = true → VD F X a δ d) (hb : x = false → VD F X b δ d') : VD F X (.IfExp c a b pos) δ (if x = true then d else d') := ve_if (hc.to (by
  cases x with
  | true => simpa using ha rfl
  | false => simpa using hb rfl))
end
/-! ### arguments, displays, items, slices -/
section
variable {e : Expr} {es : List Expr} {pos : Pos} {d : PyData} {ds : List PyData}
theorem va_nil {k : List PyData → Prop} (h : k []) : VA F X [] δ k := fun σ H Q o s q => pa_nil.sem (show Q [] H from q _ H _ (.refl H) o .nil h)
theorem vl_nil : VL F X [] δ [] := va_nil rfl
theorem va_cons {k : List PyData → Prop} (he : VE F X e δ fun d => VA F X es δ fun ds => k (d :: ds)) (hs : starEach (e :: es) X.env = (false, eval e X.env) :: starEach es X.env := by rfl) : VA F X (e :: es) δ k := fun σ H Q o s q =>
  (pa_cons (pe_sem X e) (pa_sem X es) hs).sem (he σ H _ o s fun v H1 d e1 o1 n1 kd => kd σ H1 _ o1 (o.all s e1) fun vs H2 ds e2 o2 n2 kds => q _ H2 _ (e1.trans e2) o2 (.cons (Dn.mono F.sub e2 _ _ n1) n2) kds)
theorem vl_cons (he : VD F X e δ d) (hr : VL F X es δ ds) (hs : starEach (e :: es) X.env = (false, eval e X.env) :: starEach es X.env := by rfl) : VL F X (e :: es) δ (d :: ds) := va_cons (he.to (hr.to rfl)) hs
theorem ve_tup {x1} (h : VA F X es δ fun ds => ds.length ≤ sizeLine ∧ k (.tuple ds)) : VE F X (.Tuple es x1 pos) δ k := fun σ H Q o s q =>
  (pe_tupF (pa_sem X es)).sem (h σ H _ o s fun vs H1 ds e1 o1 n1 ⟨hl, kd⟩ => ⟨by rw [n1.length]; exact hl, fun p ob hd hp =>
    q _ _ _ (e1.trans (.new hp)) (o1.mono (.new hp)) (.tup (.inl ⟨o1.fresh hp, ob, hd, upd_same⟩) (Dn.monoAll F.sub (.new hp) _ _ n1)) kd⟩)
theorem ve_lst (h : VA F X es δ fun ds => ds.length ≤ sizeLine ∧ k (.list ds)) : VE F X (.List es pos) δ k := fun σ H Q o s q =>
  (pe_lst (pa_sem X es)).sem (h σ H _ o s fun vs H1 ds e1 o1 n1 ⟨hl, kd⟩ => ⟨by rw [n1.length]; exact hl, fun p hp =>
    q _ _ _ (e1.trans (.new hp)) (o1.mono (.new hp)) (.lst ⟨o1.fresh hp, upd_same⟩ (Dn.monoAll F.sub (.new hp) _ _ n1)) kd⟩)
theorem sz_le {n : Nat} (h : n ≤ 100000) : n ≤ sizeLine := Nat.le_trans h (by decide)
theorem vd_tup {x1} (h : VL F X es δ ds) (hl : ds.length ≤ 100000 := by first | decide | simp) : VD F X (.Tuple es x1 pos) δ (.tuple ds) := ve_tup (h.to ⟨sz_le hl, rfl⟩)
theorem vd_lst (h : VL F X es δ ds) (hl : ds.length ≤ 100000 := by first | decide | simp) : VD F X (.List es pos) δ (.list ds) := ve_lst (h.to ⟨sz_le hl, rfl⟩)
/-- xs[i] of a list or a tuple -/
theorem DnAll.atI {K : PySem.W.Frag} {S : AS} {H : Hp} {vs : List V} {ds : List PyData} (h : DnAll K S H vs ds) {i : Int} {d : PyData} (e : atI ds i = some d) : ∃ v, atI vs i = some v ∧ Dn K S H v d := by
  unfold L2.atI at e ⊢
  rw [h.length]
  cases q : ixN ds.length i with
  | none => rw [q] at e; cases e
  | some j =>
    rw [q] at e
    exact h.get (show ds[j]? = some d from e)
variable {a b : Expr} {i : Int}
theorem ve_ixL (ha : VE F X a δ fun x => VE F X b δ fun y => ∃ ds i d, x = .list ds ∧ y = .int i ∧ atI ds i = some d ∧ k d) (hs : PlainIx b := by intro _ _; rfl) : VE F X (.Subscript a b pos) δ k :=
  ve_two (pe_ix ix_list (pe_sem X a) (pe_sem X b) hs) (ha.mono fun x hb => hb.mono fun y ⟨ds, i, d, e1, e2, e3, w⟩ => ⟨d, fun S H vx vy Q _ hx hy q => by
    subst e1 e2
    cases hx with
    | lst sq al =>
      obtain ⟨v, h1, h2⟩ := al.atI e3
      exact ⟨_, _, i, v, rfl, hy.sc rfl, sq.sq, h1, q v H (.refl H) h2⟩, w⟩)
theorem ve_ixT (ha : VE F X a δ fun x => VE F X b δ fun y => ∃ ds i d, x = .tuple ds ∧ y = .int i ∧ atI ds i = some d ∧ k d) (hs : PlainIx b := by intro _ _; rfl) : VE F X (.Subscript a b pos) δ k :=
  ve_two (pe_ix ix_tup (pe_sem X a) (pe_sem X b) hs) (ha.mono fun x hb => hb.mono fun y ⟨ds, i, d, e1, e2, e3, w⟩ => ⟨d, fun S H vx vy Q _ hx hy q => by
    subst e1 e2
    cases hx with
    | tup sq al =>
      obtain ⟨v, h1, h2⟩ := al.atI e3
      exact ⟨_, _, i, v, rfl, hy.sc rfl, sq.sq, h1, q v H (.refl H) h2⟩, w⟩)
theorem vd_ixL (ha : VD F X a δ (.list ds)) (hb : VD F X b δ (.int i)) (h : atI ds i = some d) (hs : PlainIx b := by intro _ _; rfl) : VD F X (.Subscript a b pos) δ d := ve_ixL (ha.to (hb.to ⟨ds, i, d, rfl, rfl, h, rfl⟩)) hs
theorem vd_ixT (ha : VD F X a δ (.tuple ds)) (hb : VD F X b δ (.int i)) (h : atI ds i = some d) (hs : PlainIx b := by intro _ _; rfl) : VD F X (.Subscript a b pos) δ d := ve_ixT (ha.to (hb.to ⟨ds, i, d, rfl, rfl, h, rfl⟩)) hs
/-- x in T, T a module's tuple of plain values -/
theorem flat_dn {K : PySem.W.Frag} {S : AS} {H : Hp} : ∀ {vs : List V} {ds : List PyData}, (∃ ws, ds.map scV = ws.map some ∧ ws = vs) → DnAll K S H vs ds
  | _, [], ⟨ws, h, e⟩ => by
    subst e
    cases ws with
    | nil => exact .nil
    | cons a b => simp at h
  | _, d :: ds, ⟨ws, h, e⟩ => by
    subst e
    cases ws with
    | nil => simp at h
    | cons a b =>
      simp only [List.map_cons, List.cons.injEq] at h
      exact .cons (dn_sc h.1) (flat_dn ⟨b, h.2, rfl⟩)
theorem vd_inK {x : Str} {a : Expr} {pos px : Pos} {t : Addr} {vs : List V} {d : PyData} {ds : List PyData} (ha : VD F X a δ d) (hm : X.mg x = some (.ref t)) (hq : SqT X.K (fun _ => none) t vs) (hd : scD d = true) (hv : ds.map scV = vs.map some) (hf : ds.all scD = true := by rfl) (hg : Gl X x := by rfl) (hdb : (x == ("__debug__" : Str)) = false := by decide) :
    VD F X (.Compare a [.In] [.Name x px] pos) δ (.bool (inF d ds)) := fun σ H Q o s q =>
  (pe_cmpR op_in_seq (pe_sem X a) (pe_glob (v := .ref t) hg hm rfl hdb) rfl).sem (ha σ H _ o s fun v H1 d' e1 o1 n1 kd => by
    subst kd
    have al : DnAll X.K F.S H1 vs ds := flat_dn ⟨vs, hv, rfl⟩
    refine ⟨t, vs, rfl, .inr (sqt_w hq), n1.flat hd, al.flat hf, ?_⟩
    rw [inF_V n1 hd al hf]
    exact q _ H1 _ e1 o1 (.bl _) rfl)
theorem vb_inK {x : Str} {a : Expr} {pos px : Pos} {t : Addr} {vs : List V} {d : PyData} {ds : List PyData} (neg : Bool) (ha : VD F X a δ d) (hm : X.mg x = some (.ref t)) (hq : SqT X.K (fun _ => none) t vs) (hd : scD d = true) (hv : ds.map scV = vs.map some) (hf : ds.all scD = true := by rfl) (hg : Gl X x := by rfl) (hdb : (x == ("__debug__" : Str)) = false := by decide) :
    VB F X (.Compare a [if neg then .NotIn else .In] [.Name x px] pos) δ (if neg then !inF d ds else inF d ds) := fun σ H Q o s q => by
  cases neg with
  | false =>
    refine (pt_cmpR op_in_seq (pe_sem X a) (pe_glob (v := .ref t) hg hm rfl hdb) rfl).sem (ha σ H _ o s fun v H1 d' e1 o1 n1 kd => ?_)
    subst kd
    have al : DnAll X.K F.S H1 vs ds := flat_dn ⟨vs, hv, rfl⟩
    refine ⟨t, vs, rfl, .inr (sqt_w hq), n1.flat hd, al.flat hf, ?_⟩
    rw [inF_V n1 hd al hf]
    exact ⟨_, rfl, q _ H1 e1 o1 rfl⟩
  | true =>
    refine (pt_cmpR op_notIn_seq (pe_sem X a) (pe_glob (v := .ref t) hg hm rfl hdb) rfl).sem (ha σ H _ o s fun v H1 d' e1 o1 n1 kd => ?_)
    subst kd
    have al : DnAll X.K F.S H1 vs ds := flat_dn ⟨vs, hv, rfl⟩
    refine ⟨t, vs, rfl, .inr (sqt_w hq), n1.flat hd, al.flat hf, ?_⟩
    rw [inF_V n1 hd al hf]
    exact ⟨_, rfl, q _ H1 e1 o1 rfl⟩
/-! slices -/
def VO (F : Fm) (X : Cx) (e : Option Expr) (δ : DE) (o : Option Int) : Prop := ∃ t, PO X e t ∧ ∀ (σ : L2.St) (H : Hp) (Q : Option Int → Hp → Prop), F.ok H → StD X.K F.S H σ δ → (∀ H', Xt F.C H H' → F.ok H' → Q o H') → t σ H Q
theorem vo_none : VO F X none δ none := ⟨_, po_none, fun σ H Q o s q => q H (.refl H) o⟩
theorem vo_some (he : VD F X e δ (.int i)) : VO F X (some e) δ (some i) := ⟨_, po_some (pe_sem X e), fun σ H Q o s q => he σ H _ o s fun v H1 d e1 o1 n1 kd => by
  subst kd
  exact ⟨i, n1.sc rfl, q H1 e1 o1⟩⟩
def cutD (ds : List PyData) (lo hi : Option Int) : List PyData := (ds.drop (HT.sIx ds.length 0 lo)).take (HT.sIx ds.length ds.length hi - HT.sIx ds.length 0 lo)
theorem DnAll.cut {K : PySem.W.Frag} {S : AS} {H : Hp} {vs : List V} {ds : List PyData} (h : DnAll K S H vs ds) (lo hi : Option Int) : DnAll K S H (cutV vs lo hi) (cutD ds lo hi) := by
  unfold cutV cutD
  rw [h.length]
  exact (h.drop _).take _
variable {lo hi : Option Expr} {l u : Option Int} {p2 : Pos}
/-- a tuple's slice that isn't the whole -/
theorem vd_slT (he : VD F X e δ (.tuple ds)) (hl : VO F X lo δ l) (hu : VO F X hi δ u) (hn : ¬ (HT.sIx ds.length 0 l = 0 ∧ HT.sIx ds.length ds.length u = ds.length)) : VD F X (.Subscript e (.Slice lo hi none p2) pos) δ (.tuple (cutD ds l u)) := fun σ H Q o s q => by
  obtain ⟨tl, h1, h2⟩ := hl
  obtain ⟨tu, h3, h4⟩ := hu
  refine (pe_slice sl_tupF (pe_sem X e) h1 h3).sem (he σ H _ o s fun v H1 d e1 o1 n1 kd => h2 σ H1 _ o1 (o.all s e1) fun H2 e2 o2 => h4 σ H2 _ o2 (o.all s (e1.trans e2)) fun H3 e3 o3 => ?_)
  subst kd
  have n3 := Dn.mono F.sub (e2.trans e3) _ _ n1
  cases n3 with
  | tup sq al =>
    refine ⟨_, _, rfl, sq.sq, by rw [al.length]; exact hn, fun p ob hd hp => q _ _ _ (((e1.trans e2).trans e3).trans (.new hp)) (o3.mono (.new hp)) (.tup (.inl ⟨o3.fresh hp, ob, hd, upd_same⟩) (Dn.monoAll F.sub (.new hp) _ _ (al.cut l u))) rfl⟩
end
end
end Dl
set_option Elab.async false
set_option linter.all false
set_option maxRecDepth 100000
set_option maxHeartbeats 4000000
namespace Dl
open PySem PySem.Spec PyProof.Rows L2
/-! ### calls of built-ins -/
section
variable {F : Fm} {X : Cx} {δ : DE} {k : PyData → Prop} {e a b c : Expr} {es : List Expr} {pos p : Pos} {x : Str} {d z : PyData} {ds : List PyData} {i j m : Int}
def CallD (K : PySem.W.Frag) (r : List V → Hp → VK → Prop) (ds : List PyData) (z : PyData) : Prop := ∀ (S : AS) (H : Hp) (vs : List V) (Q : VK), (∀ a, S a → H a ≠ none) → DnAll K S H vs ds → (∀ v H', Xt C0 H H' → Dn K S H' v z → Q v H') → r vs H Q
theorem ve_cb {r : List V → Hp → VK → Prop} (he : PE X e (tCB r (semA X es))) (ha : VA F X es δ fun ds => ∃ z, CallD X.K r ds z ∧ k z) : VE F X e δ k := fun σ H Q o s q =>
  he.sem (ha σ H _ o s fun vs H1 ds e1 o1 n1 ⟨z, hc, kz⟩ => hc F.S H1 vs Q o1.2 n1 fun v H' e3 nz => q v H' z (e1.trans e3.of0) (o1.mono e3) nz kz)
theorem ve_callB {id : String} {r : List V → Hp → VK → Prop} (hc : CallR X (.builtin id) r) (hm : X.mg x = none) (hv : bootBuiltins x = some (.builtin id)) (ha : VA F X (e :: es) δ fun ds => ∃ z, CallD X.K r ds z ∧ k z) (hg : Gl X x := by rfl) (hn : x ≠ "__name__" := by decide) (hdb : (x == ("__debug__" : Str)) = false := by decide)
    (he : starEach (e :: es) X.env = (false, eval e X.env) :: starEach es X.env := by rfl) (hpl : (backTo pos (starEach es X.env)).any (·.1) = false := by rfl) : VE F X (.Call (.Name x p) (e :: es) [] pos) δ k := ve_cb (pe_callB hc hg hm hv (pa_sem X _) hn hdb he hpl) ha
theorem ve_callTy {T : String} {r : List V → Hp → VK → Prop} (hc : CallR X (.type T) r) (hm : X.mg x = none) (hv : bootBuiltins x = some (.type T)) (ha : VA F X (e :: es) δ fun ds => ∃ z, CallD X.K r ds z ∧ k z) (hg : Gl X x := by rfl) (hn : x ≠ "__name__" := by decide) (hdb : (x == ("__debug__" : Str)) = false := by decide)
    (he : starEach (e :: es) X.env = (false, eval e X.env) :: starEach es X.env := by rfl) (hpl : (backTo pos (starEach es X.env)).any (·.1) = false := by rfl) : VE F X (.Call (.Name x p) (e :: es) [] pos) δ k := ve_cb (pe_callTy hc hg hm hv (pa_sem X _) hn hdb he hpl) ha
theorem vd_len (hm : X.mg "len" = none) (ha : VD F X a δ d) (hd : seqOf d = some ds) (hg : Gl X "len" := by rfl) (he : starEach [a] X.env = [(false, eval a X.env)] := by rfl) : VD F X (.Call (.Name "len" p) [a] [] pos) δ (.int (ds.length : Int)) :=
  ve_callB call_len_seq hm PySem.boot_len (VA.to (vl_cons ha vl_nil he) ⟨_, fun S H vs Q _ n q => by
    cases n with
    | cons n1 n2 =>
      cases n2
      obtain ⟨p, xs, rfl, hs, al⟩ := n1.seq hd
      refine ⟨p, xs, rfl, hs, ?_⟩
      rw [al.length]
      exact q _ H (.refl H) (.int _), rfl⟩) hg (by decide) (by decide) he rfl
theorem min_if (i j : Int) : (if j < i then j else i) = min i j := by split <;> omega
theorem vd_min2 (hcm : X.calm = true) (hm : X.mg "min" = none) (ha : VD F X a δ (.int i)) (hb : VD F X b δ (.int j)) (hg : Gl X "min" := by rfl) (he : starEach [a, b] X.env = (false, eval a X.env) :: starEach [b] X.env := by rfl) (he2 : starEach [b] X.env = [(false, eval b X.env)] := by rfl) : VD F X (.Call (.Name "min" p) [a, b] [] pos) δ (.int (min i j)) :=
  ve_callB (call_min2 hcm) hm (by decide +kernel) (VA.to (vl_cons ha (vl_cons hb vl_nil he2) he) ⟨_, fun S H vs Q _ n q => by
    cases n with
    | cons n1 n2 =>
      cases n2 with
      | cons n2 n3 =>
        cases n3
        cases n1
        cases n2
        refine ⟨i, j, rfl, ?_⟩
        rw [min_if]
        exact q _ H (.refl H) (.int _), rfl⟩) hg (by decide) (by decide) he (by rw [he2]; rfl)
theorem nuMin2_int (i j : Int) : nuMin2 (.int i) (.int j) = some (.int (min i j)) := by
  have e : nuLt (.int j) (.int i) = some (decide (j < i)) := rfl
  unfold nuMin2
  rw [e]
  by_cases h : j < i
  · rw [decide_eq_true h, show min i j = j by omega]; rfl
  · rw [decide_eq_false h, show min i j = i by omega]; rfl
theorem nuMin3_int (i j m : Int) : nuMin3 (.int i) (.int j) (.int m) = some (.int (min (min i j) m)) := by
  unfold nuMin3
  rw [nuMin2_int]
  exact nuMin2_int _ _
theorem vd_min3 (hcm : X.calm = true) (hm : X.mg "min" = none) (ha : VD F X a δ (.int i)) (hb : VD F X b δ (.int j)) (hc : VD F X c δ (.int m)) (hg : Gl X "min" := by rfl) (he : starEach [a, b, c] X.env = (false, eval a X.env) :: starEach [b, c] X.env := by rfl) (he2 : starEach [b, c] X.env = (false, eval b X.env) :: starEach [c] X.env := by rfl) (he3 : starEach [c] X.env = [(false, eval c X.env)] := by rfl) : VD F X (.Call (.Name "min" p) [a, b, c] [] pos) δ (.int (min (min i j) m)) :=
  ve_callB (call_min3Nu hcm) hm (by decide +kernel) (VA.to (vl_cons ha (vl_cons hb (vl_cons hc vl_nil he3) he2) he) ⟨_, fun S H vs Q _ n q => by
    cases n with
    | cons n1 n2 =>
      cases n2 with
      | cons n2 n3 =>
        cases n3 with
        | cons n3 n4 =>
          cases n4
          cases n1
          cases n2
          cases n3
          exact ⟨_, _, _, _, rfl, nuMin3_int i j m, q _ H (.refl H) (.int _)⟩, rfl⟩) hg (by decide) (by decide) he (by rw [he2, he3]; rfl)
/-! isinstance -/
def tyD : PyData → String
  | .none => "NoneType"
  | .bool _ => "bool"
  | .int _ => "int"
  | .str _ => "str"
  | .list _ => "list"
  | .tuple _ => "tuple"
  | .dict _ => "dict"
theorem Dn.tyx {K : PySem.W.Frag} {S : AS} {H : Hp} {v : V} {d : PyData} (h : Dn K S H v d) : TyX K H v (.type (tyD d)) := by
  cases h with
  | non => exact .base .non
  | bl b => exact .base (.bl b)
  | int i => exact .base (.int i)
  | str y => exact .base (.str y)
  | lst s _ =>
    rcases s.sq with (s | ⟨o, s⟩) | ⟨o, its, n, hk, hc, _⟩
    · exact .base (.lst s)
    · exact .base (.frz s)
    · exact .kList hk hc
  | tup s _ =>
    rcases s.sq with (s | ⟨o, s⟩) | ⟨o, its, n, hk, hc, _⟩
    · exact .base (.tup s)
    · exact .fTuple s
    · exact .kTuple hk hc
theorem vd_isi {T : Str} {T' : String} {pT : Pos} {t : Bool} (hm : X.mg "isinstance" = none) (hT : X.mg T = none) (hvT : bootBuiltins T = some (.type T')) (he : VD F X e δ d) (hb : kitB (tyD d) T' = some t) (hg : Gl X "isinstance" := by rfl) (hgT : Gl X T := by rfl) (hnT : T ≠ "__name__" := by decide) (hdT : (T == ("__debug__" : Str)) = false := by decide)
    (hs : starEach [e, .Name T pT] X.env = (false, eval e X.env) :: starEach [.Name T pT] X.env := by rfl) (hs2 : starEach [.Name T pT] X.env = [(false, eval (.Name T pT) X.env)] := by rfl) : VD F X (.Call (.Name "isinstance" p) [e, .Name T pT] [] pos) δ (.bool t) := fun σ H Q o s q =>
  (pe_callB call_isi hg hm boot_isinstance (pa_cons (pe_sem X e) (pa_cons (pe_bltn (v := .ty T') hgT hT hvT rfl hnT hdT) pa_nil hs2) hs) (by decide) (by decide) hs (by rw [hs2]; rfl)).sem
    (he σ H _ o s fun v H1 d' e1 o1 n1 kd => by
      subst kd
      exact ⟨v, .ty T', _, _, t, rfl, .ty T', n1.tyx, kit_ty hb, q _ H1 _ e1 o1 (.bl _) rfl⟩)
def isIntD : PyData → Bool
  | .int _ => true
  | .bool _ => true
  | _ => false
def isBoolD : PyData → Bool
  | .bool _ => true
  | _ => false
def isStrD : PyData → Bool
  | .str _ => true
  | _ => false
def isTupD : PyData → Bool
  | .tuple _ => true
  | _ => false
def isLstD : PyData → Bool
  | .list _ => true
  | _ => false
theorem kit_int (d : PyData) : kitB (tyD d) "int" = some (isIntD d) := by cases d <;> (dsimp only [tyD, isIntD]; decide +kernel)
theorem kit_bool (d : PyData) : kitB (tyD d) "bool" = some (isBoolD d) := by cases d <;> (dsimp only [tyD, isBoolD]; decide +kernel)
theorem kit_str (d : PyData) : kitB (tyD d) "str" = some (isStrD d) := by cases d <;> (dsimp only [tyD, isStrD]; decide +kernel)
theorem kit_tuple (d : PyData) : kitB (tyD d) "tuple" = some (isTupD d) := by cases d <;> (dsimp only [tyD, isTupD]; decide +kernel)
theorem kit_list (d : PyData) : kitB (tyD d) "list" = some (isLstD d) := by cases d <;> (dsimp only [tyD, isLstD]; decide +kernel)
/-- isinstance(e, (T1, T2)) -/
theorem vd_isi2 {T U : Str} {T' U' : String} {pT pU pt : Pos} {x1} {t u : Bool} (hm : X.mg "isinstance" = none) (hT : X.mg T = none) (hvT : bootBuiltins T = some (.type T')) (hU : X.mg U = none) (hvU : bootBuiltins U = some (.type U')) (he : VD F X e δ d) (hb : kitB (tyD d) T' = some t) (hb2 : kitB (tyD d) U' = some u)
    (hg : Gl X "isinstance" := by rfl) (hgT : Gl X T := by rfl) (hgU : Gl X U := by rfl) (hnT : T ≠ "__name__" := by decide) (hdT : (T == ("__debug__" : Str)) = false := by decide) (hnU : U ≠ "__name__" := by decide) (hdU : (U == ("__debug__" : Str)) = false := by decide)
    (hs : starEach [e, .Tuple [.Name T pT, .Name U pU] x1 pt] X.env = (false, eval e X.env) :: starEach [.Tuple [.Name T pT, .Name U pU] x1 pt] X.env := by rfl) (hs2 : starEach [.Tuple [.Name T pT, .Name U pU] x1 pt] X.env = [(false, eval (.Tuple [.Name T pT, .Name U pU] x1 pt) X.env)] := by rfl)
    (hs3 : starEach [.Name T pT, .Name U pU] X.env = (false, eval (.Name T pT) X.env) :: starEach [.Name U pU] X.env := by rfl) (hs4 : starEach [.Name U pU] X.env = [(false, eval (.Name U pU) X.env)] := by rfl) : VD F X (.Call (.Name "isinstance" p) [e, .Tuple [.Name T pT, .Name U pU] x1 pt] [] pos) δ (.bool (t || u)) := fun σ H Q o s q =>
  (pe_callB call_isiT hg hm boot_isinstance (pa_cons (pe_sem X e) (pa_cons (pe_tup (pa_cons (pe_bltn (v := .ty T') hgT hT hvT rfl hnT hdT) (pa_cons (pe_bltn (v := .ty U') hgU hU hvU rfl hnU hdU) pa_nil hs4) hs3)) pa_nil hs2) hs) (by decide) (by decide) hs (by rw [hs2]; rfl)).sem
    (he σ H _ o s fun v H1 d' e1 o1 n1 kd => by
      subst kd
      refine ⟨by show 2 ≤ sizeLine; decide, fun tp ht => ?_⟩
      have e2 : Xt C0 H1 (upd H1 tp (.tup [.ty T', .ty U'])) := .new ht
      have n2 := Dn.mono (C := C0) (fun _ _ z => z.elim) e2 _ _ n1
      exact ⟨v, tp, _, _, [.type T', .type U'], t || u, rfl, upd_same, .cons (.ty T') (.cons (.ty U') .nil), n2.tyx,
        kitAny_cons (kit_ty hb) (fun h0 => kitAny_cons (kit_ty hb2) (fun h1 => by rw [h0, h1]; exact kitAny_nil) (fun h1 => by rw [h1]; simp)) (fun h0 => by rw [h0]; rfl), q _ _ _ (e1.trans e2.of0) (o1.mono e2) (.bl _) rfl⟩)
end
/-! ### defs -/
/-- the promise: called with data ds of which A ds d holds, it hands back d; nothing that stood is changed -/
def spD (K : PySem.W.Frag) (A : List PyData → PyData → Prop) : Sp := fun vs H Q _ => ∃ (S : AS) (ds : List PyData) (d : PyData), (∀ a, S a → H a ≠ none) ∧ DnAll K S H vs ds ∧ A ds d ∧ ∀ v H', Xt C0 H H' → Dn K S H' v d → Q v H'
/-- a def by its name, with what a caller wants of it -/
structure Df (P : Program) (w : World) (K : PySem.W.Frag) (mg : Str → Option Value) (base : Heap) (x : Str) (k : Nat) (sp : Sp) : Prop where
  ex : ∃ (f : Addr) (fd : FuncData) (ps : List Str), FnOk P w K mg base (L2.CX P w) k f fd ps sp ∧ mg x = some (.ref f) ∧ PySem.W.keepIn K (.ref f) = true ∧ Binds K fd ps []
/-- where a def stands -/
structure At (K : PySem.W.Frag) (mg : Str → Option Value) (x : Str) (st : Stmt) (ps : List Str) : Prop where
  ex : ∃ (f : Addr) (fd : FuncData), Fun K x x st f fd ∧ mg x = some (.ref f) ∧ Binds K fd ps []
section
variable {F : Fm} {X : Cx} {δ : DE} {k : PyData → Prop} {e a b c : Expr} {es : List Expr} {pos p : Pos} {x : Str} {d z : PyData} {ds : List PyData}
theorem ve_call {A : List PyData → PyData → Prop} {j n : Nat} (G : Df X.prog X.w X.K X.mg X.base x j (spD X.K A)) (hr : Room n X.A) (hj : j ≤ n) (ha : VA F X (e :: es) δ fun ds => ∃ z, A ds z ∧ k z) (hg : Gl X x := by rfl) (hdb : (x == ("__debug__" : Str)) = false := by decide)
    (he : starEach (e :: es) X.env = (false, eval e X.env) :: starEach es X.env := by rfl) (hpl : (backTo pos (starEach es X.env)).any (·.1) = false := by rfl) : VE F X (.Call (.Name x p) (e :: es) [] pos) δ k := fun σ H Q o s q => by
  obtain ⟨f, fd, ps, G1, G2, G3, G4⟩ := G.ex
  refine (pe_call G1 (hr.mono hj) hg G2 G3 G4 .nil passL (pa_sem X _) hdb he hpl).sem ?_
  refine ha σ H _ o s fun vs H1 ds e1 o1 n1 ⟨z, hA, kz⟩ => ?_
  show spD X.K A (vs ++ []) H1 Q E0
  rw [List.append_nil]
  exact ⟨F.S, ds, z, o1.2, n1, hA, fun v H' e2 n2 => q v H' z (e1.trans e2.of0) (o1.mono e2) n2 kz⟩
theorem vd_call {A : List PyData → PyData → Prop} {j n : Nat} (G : Df X.prog X.w X.K X.mg X.base x j (spD X.K A)) (hr : Room n X.A) (hj : j ≤ n) (ha : VL F X (e :: es) δ ds) (hA : A ds z) (hg : Gl X x := by rfl) (hdb : (x == ("__debug__" : Str)) = false := by decide)
    (he : starEach (e :: es) X.env = (false, eval e X.env) :: starEach es X.env := by rfl) (hpl : (backTo pos (starEach es X.env)).any (·.1) = false := by rfl) : VD F X (.Call (.Name x p) (e :: es) [] pos) δ z := ve_call G hr hj (ha.to ⟨z, hA, rfl⟩) hg hdb he hpl
theorem vd_call0 {A : List PyData → PyData → Prop} {j n : Nat} (G : Df X.prog X.w X.K X.mg X.base x j (spD X.K A)) (hr : Room n X.A) (hj : j ≤ n) (hA : A [] z) (hg : Gl X x := by rfl) (hdb : (x == ("__debug__" : Str)) = false := by decide) : VD F X (.Call (.Name x p) [] [] pos) δ z := fun σ H Q o s q => by
  obtain ⟨f, fd, ps, G1, G2, G3, G4⟩ := G.ex
  refine (pe_call0 G1 (hr.mono hj) hg G2 G3 G4 .nil passL hdb).sem ?_
  show spD X.K A ([] ++ []) H Q E0
  exact ⟨F.S, [], z, o.2, .nil, hA, fun v H' e2 n2 => q v H' z e2.of0 (o.mono e2) n2 rfl⟩
end
/-! ### statements -/
section
variable {F : Fm} {X : Cx} {δ : DE} {R : Out} {e : Expr} {rest body orelse : List Stmt} {pos : Pos}
theorem vs_nil (h : R.nx δ) : VS F X [] δ R := fun σ H D o s q => pss_nil.sem (show D.nx σ H from q.nx σ H δ (.refl H) o s h)
theorem vs_by {st : Stmt} {t : TS} (h : PS X st t) (hq : ∀ (σ : L2.St) (H : Hp) (D : Ends), F.ok H → StD X.K F.S H σ δ → EndsOk F X.K H R D → t { D with nx := semSs X rest D } σ H) : VS F X (st :: rest) δ R := fun σ H D o s q =>
  (pss_cons h (pss_sem X rest)).sem (hq σ H D o s q)
theorem vs_asg (i : Nat) {x : Str} {px : Pos} (he : VE F X e δ fun d => VS F X rest (δ.set i (some (.dat d))) R) (hN : X.N.Nodup) (hi : X.N[i]? = some x := by rfl) (hx : Loc X.env.scope x := by first | exact Or.inl rfl | exact Or.inr rfl) (hs : swapsWith e (some (.Name x px)) pos.line X.env = pure false := by rfl)
    (hf : X.fn x = true ∨ X.env.scope.names.lookup x = some .local := by first | exact .inl rfl | exact .inr rfl) : VS F X (.Assign [.Name x px] e pos :: rest) δ R :=
  vs_by (ps_set hN hi hx (pe_sem X e) hs hf) fun σ H D o s q => he σ H _ o s fun v H1 d e1 o1 n1 kd => kd _ H1 D o1 ((o.all s e1).setD i n1) (q.mono e1)
theorem vs_ret (he : VE F X e δ R.rt) : VS F X (.Return (some e) pos :: rest) δ R := vs_by (ps_ret (pe_sem X e)) fun σ H D o s q => he σ H _ o s fun v H1 d e1 o1 n1 kd => q.rt v H1 d e1 o1 n1 kd
theorem vs_if {c : Expr} (hc : VT F X c δ fun b => if b = true then VS F X body δ { R with nx := fun δ' => VS F X rest δ' R } else VS F X orelse δ { R with nx := fun δ' => VS F X rest δ' R }) : VS F X (.If c body orelse pos :: rest) δ R :=
  vs_by (ps_if (pt_sem X c) (pss_sem X body) (pss_sem X orelse)) fun σ H D o s q => hc σ H _ o s fun b H1 e1 o1 kb => by
    have q1 := q.mono e1
    have q2 : EndsOk F X.K H1 { R with nx := fun δ' => VS F X rest δ' R } { D with nx := semSs X rest D } :=
      ⟨fun σ' H' δ' e2 o2 s2 h => h σ' H' D o2 s2 (q1.mono e2), q1.bk, q1.ct, q1.rt⟩
    cases b with
    | true =>
      have kb' : VS F X body δ { R with nx := fun δ' => VS F X rest δ' R } := by simpa using kb
      exact kb' σ H1 _ o1 (o.all s e1) q2
    | false =>
      have kb' : VS F X orelse δ { R with nx := fun δ' => VS F X rest δ' R } := by simpa using kb
      exact kb' σ H1 _ o1 (o.all s e1) q2
/-- if c: body, c known to be worth t -/
theorem vs_ifB {c : Expr} {t : Bool} (hc : VB F X c δ t) (h1 : t = true → VS F X body δ { R with nx := fun δ' => VS F X rest δ' R }) (h2 : t = false → VS F X orelse δ { R with nx := fun δ' => VS F X rest δ' R }) : VS F X (.If c body orelse pos :: rest) δ R := vs_if (hc.to (by
  cases t with
  | true => simpa using h1 rfl
  | false => simpa using h2 rfl))
theorem vs_expr (he : VE F X e δ fun _ => VS F X rest δ R) (hs : swapsWith e none pos.line X.env = pure false := by rfl) : VS F X (.Expr e pos :: rest) δ R :=
  vs_by (ps_expr (pe_sem X e) hs) fun σ H D o s q => he σ H _ o s fun v H1 d e1 o1 n1 kd => kd σ H1 D o1 (o.all s e1) (q.mono e1)
/-- names as a target's items -/
def setAll : DE → List Nat → List PyData → DE
  | δ, i :: is, d :: ds => setAll (δ.set i (some (.dat d))) is ds
  | δ, _, _ => δ
structure PN (X : Cx) (ts : List Expr) (is : List Nat) : Prop where
  run : ∃ t, PGs X ts t ∧ ∀ (F : Fm) (δ : DE) (σ : L2.St) (H : Hp) (vs : List V) (ds : List PyData) (Q : L2.St → Hp → Prop), StD X.K F.S H σ δ → DnAll X.K F.S H vs ds → ds.length = is.length → (∀ σ', StD X.K F.S H σ' (setAll δ is ds) → Q σ' H) → t vs σ H Q
theorem pn_nil : PN X [] [] := ⟨gNil, pgs_nil, fun F δ σ H vs ds Q s n hl q => by
  cases ds with
  | nil => cases n; exact ⟨rfl, q σ s⟩
  | cons d ds => simp at hl⟩
theorem pn_cons {x : Str} {px : Pos} {ts : List Expr} {is : List Nat} (i : Nat) (h : PN X ts is) (hN : X.N.Nodup) (hi : X.N[i]? = some x := by rfl) (hx : Loc X.env.scope x := by first | exact Or.inl rfl | exact Or.inr rfl) (hf : X.fn x = true ∨ X.env.scope.names.lookup x = some .local := by first | exact .inl rfl | exact .inr rfl)
    (hs : (assignEach (.Name x px :: ts) X.env).map (·.2) = assign (.Name x px) X.env :: (assignEach ts X.env).map (·.2) := by rfl) : PN X (.Name x px :: ts) (i :: is) := by
  obtain ⟨t, h1, h2⟩ := h.run
  refine ⟨gCons (gName i) t, pgs_cons (pg_name hN hi hx hf) h1 hs, fun F δ σ H vs ds Q s n hl q => ?_⟩
  cases ds with
  | nil => simp at hl
  | cons d ds =>
    cases n with
    | cons n1 n2 => exact ⟨_, _, rfl, h2 F _ _ H _ ds Q (s.setD i n1) n2 (by simpa using hl) q⟩
/-- a, b, .. = e, e a tuple -/
theorem vs_unp {ts : List Expr} {k1 : Nat} {pt : Pos} {is : List Nat} (h : PN X ts is) (he : VE F X e δ fun d => ∃ ds, d = .tuple ds ∧ ds.length = is.length ∧ VS F X rest (setAll δ is ds) R) (hn : (assignEach ts X.env).length = is.length := by rfl) (hc : X.calm = true := by rfl) (hst : (assignEach ts X.env).findIdx? (·.1) = none := by rfl)
    (hs : swapsWithSole [.Tuple ts k1 pt] e pos.line X.env = pure false := by rfl) (hw : swappedStores [.Tuple ts k1 pt] e X.env = pure none := by rfl) (h1 : (assignEach [.Tuple ts k1 pt] X.env).map (·.2) = [assign (.Tuple ts k1 pt) X.env] := by rfl) :
    VS F X (.Assign [.Tuple ts k1 pt] e pos :: rest) δ R := by
  obtain ⟨t, g1, g2⟩ := h.run
  exact vs_by (ps_asg (pe_sem X e) (pg_tup hc g1 hn hst) hs hw h1) fun σ H D o s q => he σ H _ o s fun v H1 d e1 o1 n1 ⟨ds, ed, hl, kd⟩ => by
    subst ed
    cases n1 with
    | tup sq al => exact ⟨_, _, rfl, sq.sq, by rw [al.length, hl], g2 F δ σ H1 _ ds _ (o.all s e1) al hl fun σ' s' => kd σ' H1 D o1 s' (q.mono e1)⟩
end
/-! ### what is walked -/
structure Walks (F : Fm) (K : PySem.W.Frag) (J : It) (ds : List PyData) (H : Hp) : Prop where
  go : ∀ i H', Xt F.C H H' → i < ds.length → J.go i H'
  yld : ∀ (S' : AS), (∀ a o, F.C a o → S' a ∨ Tb o) → (∀ a, H a ≠ none → S' a → F.S a) → ∀ i H' x H3, Xt F.C H H' → J.yld i H' x H3 → Xt C0 H' H3 ∧ ∀ d, ds[i]? = some d → Dn K S' H3 x d
  stop : ∀ H', Xt F.C H H' → J.stop ds.length H'
def semI (X : Cx) (tg iter : Expr) : TI := fun σ H R => ∀ (pins : List (Addr × Obj)) (s : Shared), Inv X pins σ H s → wpAny (model X.prog X.w) X.A (eval iter X.env) (fun v s1 => wpAny (model X.prog X.w) X.A (pyIter v) (PIE X pins σ tg R) X.xe s1) X.xe s
theorem pi_sem (X : Cx) (tg iter : Expr) : PI X tg iter (semI X tg iter) := ⟨fun pins s σ H R I h => h pins s I⟩
theorem _root_.L2.PI.sem {X : Cx} {tg iter : Expr} {t : TI} (h : PI X tg iter t) {σ : L2.St} {H : Hp} {R : It → Hp → Prop} (q : t σ H R) : semI X tg iter σ H R := fun pins s I => h.run pins s σ H R I q
def VI (F : Fm) (X : Cx) (tg iter : Expr) (δ : DE) (k : List PyData → Prop) : Prop := ∀ (σ : L2.St) (H : Hp) (R : It → Hp → Prop), F.ok H → StD X.K F.S H σ δ →
  (∀ (J : It) (H' : Hp) (ds : List PyData), Xt F.C H H' → F.ok H' → Walks F X.K J ds H' → k ds → R J H') → semI X tg iter σ H R
section
variable {F : Fm} {X : Cx} {δ : DE} {R : Out} {e tg iter : Expr} {rest body : List Stmt} {pos p : Pos} {k : List PyData → Prop}
theorem vi_list (he : VE F X e δ fun d => ∃ ds, d = .list ds ∧ k ds) : VI F X tg e δ k := fun σ H R o s q =>
  (pi_list (pe_sem X e)).sem (he σ H _ o s fun v H1 d e1 o1 n1 ⟨ds, ed, kd⟩ => by
    subst ed
    cases n1 with
    | @lst a xs _ sq al =>
      refine ⟨a, rfl, ⟨xs, sq.sq⟩, q _ H1 ds e1 o1 ⟨fun i H' e2 hi => ?_, fun S' hC hS i H' x H3 e2 y => ?_, fun H' e2 => ?_⟩ kd⟩
      · have hx : i < xs.length := by rw [al.length]; exact hi
        exact ⟨xs, xs[i], (sq.mono F.sub e2).sq, by simp [hx]⟩
      · obtain ⟨e3, y⟩ := y
        subst e3
        refine ⟨.refl _, fun d hd => ?_⟩
        obtain ⟨v, h1, h2⟩ := (Dn.monoAll hC e2 _ _ (Dn.lessAll hS _ _ al)).get hd
        have := (y xs ((sq.mono F.sub e2).sq)).symm.trans h1
        cases this
        exact h2
      · exact ⟨xs, (sq.mono F.sub e2).sq, by rw [al.length]; exact Nat.le_refl _⟩)
theorem vi_tup (he : VE F X e δ fun d => ∃ ds, d = .tuple ds ∧ k ds) : VI F X tg e δ k := fun σ H R o s q =>
  (pi_tup (pe_sem X e)).sem (he σ H _ o s fun v H1 d e1 o1 n1 ⟨ds, ed, kd⟩ => by
    subst ed
    cases n1 with
    | @tup a xs _ sq al =>
      refine ⟨a, rfl, ⟨xs, sq.sq⟩, q _ H1 ds e1 o1 ⟨fun i H' e2 hi => ?_, fun S' hC hS i H' x H3 e2 y => ?_, fun H' e2 => ?_⟩ kd⟩
      · have hx : i < xs.length := by rw [al.length]; exact hi
        exact ⟨xs, xs[i], (sq.mono F.sub e2).sq, by simp [hx]⟩
      · obtain ⟨e3, y⟩ := y
        subst e3
        refine ⟨.refl _, fun d hd => ?_⟩
        obtain ⟨v, h1, h2⟩ := (Dn.monoAll hC e2 _ _ (Dn.lessAll hS _ _ al)).get hd
        have := (y xs ((sq.mono F.sub e2).sq)).symm.trans h1
        cases this
        exact h2
      · exact ⟨xs, (sq.mono F.sub e2).sq, by rw [al.length]; exact Nat.le_refl _⟩)
/-- lo, lo + 1, .. -/
def rngD (lo : Int) (n : Nat) : List PyData := (List.range n).map fun (i : Nat) => PyData.int (lo + (i : Int))
theorem rngD_len (lo : Int) (n : Nat) : (rngD lo n).length = n := by simp [rngD]
theorem rngD_get {lo : Int} {n i : Nat} {d : PyData} (h : (rngD lo n)[i]? = some d) : d = .int (lo + (i : Int)) := by
  unfold rngD at h
  rw [List.getElem?_map] at h
  cases q : (List.range n)[i]? with
  | none => rw [q] at h; cases h
  | some j =>
    rw [q] at h
    have : j = i := by
      rw [List.getElem?_range] at q
      · exact (Option.some.inj q).symm
      · have := (List.getElem?_eq_some_iff.mp q).1; simpa using this
    subst this
    exact (Option.some.inj h).symm
theorem rngD_mem {lo : Int} {n : Nat} {d : PyData} (h : d ∈ rngD lo n) : ∃ i : Nat, i < n ∧ d = .int (lo + (i : Int)) := by
  unfold rngD at h
  obtain ⟨i, h1, h2⟩ := List.mem_map.mp h
  exact ⟨i, List.mem_range.mp h1, h2.symm⟩
theorem walks_rng {K : PySem.W.Frag} {H : Hp} (lo : Int) (n : Nat) : Walks F K (Itr lo n) (rngD lo n) H :=
  ⟨fun i H' _ hi => by rw [rngD_len] at hi; exact hi, fun S' hC hS i H' x H3 _ y => by
    obtain ⟨e1, e2⟩ := y
    subst e1 e2
    exact ⟨.refl _, fun d hd => by rw [rngD_get hd]; exact .int _⟩, fun H' _ => by rw [rngD_len]; exact Nat.le_refl n⟩
theorem vi_range1 {a : Expr} (hm : X.mg "range" = none) (ha : VE F X a δ fun d => ∃ n : Int, d = .int n ∧ (-(2 ^ 62) ≤ n ∧ n < 2 ^ 62) ∧ k (rngD 0 n.toNat)) (hg : Gl X "range" := by rfl) (hs : starEach [a] X.env = [(false, eval a X.env)] := by rfl) : VI F X tg (.Call (.Name "range" p) [a] [] pos) δ k := fun σ H R o s q =>
  (pi_range1 hg hm (pa_cons (pe_sem X a) pa_nil hs) hs).sem (ha σ H _ o s fun v H1 d e1 o1 n1 ⟨n, ed, hn, kd⟩ => by
    subst ed
    cases n1
    exact ⟨n, rfl, hn.1, hn.2, q _ H1 _ e1 o1 (walks_rng 0 n.toNat) kd⟩)
/-- for a name in iter -/
theorem vs_for (j : Nat) {x : Str} {px : Pos} (I : Nat → DE → Prop) (hi : VI F X (.Name x px) iter δ fun ds => I 0 δ ∧
      (∀ i d δ', ds[i]? = some d → I i δ' → VS F X body (δ'.set j (some (.dat d))) { R with nx := I (i + 1), ct := I (i + 1), bk := fun δ2 => VS F X rest δ2 R }) ∧ ∀ δ', I ds.length δ' → VS F X rest δ' R)
    (hN : X.N.Nodup) (hp : PassesOwn (model X.prog X.w) X.A X.env X.xe) (hc : X.calm = true := by rfl) (hj : X.N[j]? = some x := by rfl) (hx : Loc X.env.scope x := by first | exact Or.inl rfl | exact Or.inr rfl) (hf : X.fn x = true ∨ X.env.scope.names.lookup x = some .local := by first | exact .inl rfl | exact .inr rfl)
    (hs : ∀ x, foldedSetIterable iter X.env x = pure x := by intro _; rfl) : VS F X (.For (.Name x px) iter body [] pos :: rest) δ R :=
  vs_by (ps_for hp hc (pi_sem X _ iter) (pg_name hN hj hx hf) (pss_sem X body) hs) fun σ H D o s q => hi σ H _ o s fun J H1 ds e1 o1 wk ⟨h0, h1, h2⟩ => by
    refine ⟨fun i m σ' H' => m = ds.length - i ∧ i ≤ ds.length ∧ Xt F.C H1 H' ∧ F.ok H' ∧ ∃ δ', StD X.K F.S H' σ' δ' ∧ I i δ', ⟨ds.length, by omega, by omega, .refl _, o1, δ, o.all s e1, h0⟩, ?_⟩
    rintro i m σ' H' ⟨rfl, hi, e2, o2, δ', s2, hI⟩
    by_cases hlt : i < ds.length
    · refine .inr ⟨wk.go i H' e2 hlt, fun σ3 H3 => Xt F.C H1 H3 ∧ F.ok H3 ∧ ∃ δ', StD X.K F.S H3 σ3 δ' ∧ I (i + 1) δ', fun σ3 H3 h3 => ⟨ds.length - (i + 1), by omega, rfl, hlt, h3⟩, fun y H3 hy => ?_⟩
      obtain ⟨e3, n3⟩ := wk.yld F.S F.sub (fun _ _ z => z) i H' y H3 e2 hy
      have hd : ds[i]? = some ds[i] := by simp [hlt]
      have o3 := o2.mono e3
      have e13 := e2.trans (e3.of0 (C := F.C))
      have q3 := (q.mono e1).mono e13
      refine h1 i _ δ' hd hI (σ'.set j (some y)) H3 _ o3 ((s2.mono F.sub e3.of0).set j (n3 _ hd)) ⟨fun σ4 H4 δ4 e4 o4 s4 h => ⟨e13.trans e4, o4, δ4, s4, h⟩, fun σ4 H4 δ4 e4 o4 s4 h => h σ4 H4 D o4 s4 (q3.mono e4), fun σ4 H4 δ4 e4 o4 s4 h => ⟨e13.trans e4, o4, δ4, s4, h⟩, q3.rt⟩
    · have e : i = ds.length := by omega
      subst e
      exact .inl ⟨wk.stop H' e2, h2 δ' hI σ' H' D o2 s2 ((q.mono e1).mono e2)⟩
end
/-! ### list comprehensions -/
/-- what is made of the items: those that fail the test are left out -/
inductive LcR (b : PyData → Bool) (P : PyData → PyData → Prop) : List PyData → List PyData → Prop
  | nil : LcR b P [] []
  | skip {x : PyData} {xs ys : List PyData} : b x = false → LcR b P xs ys → LcR b P (x :: xs) ys
  | take {x y : PyData} {xs ys : List PyData} : b x = true → P x y → LcR b P xs ys → LcR b P (x :: xs) (y :: ys)
theorem LcR.snoc_skip {b : PyData → Bool} {P : PyData → PyData → Prop} {x : PyData} (hx : b x = false) : ∀ {xs ys : List PyData}, LcR b P xs ys → LcR b P (xs ++ [x]) ys
  | _, _, .nil => .skip hx .nil
  | _, _, .skip h t => .skip h (t.snoc_skip hx)
  | _, _, .take h p t => .take h p (t.snoc_skip hx)
theorem LcR.snoc_take {b : PyData → Bool} {P : PyData → PyData → Prop} {x y : PyData} (hx : b x = true) (hp : P x y) : ∀ {xs ys : List PyData}, LcR b P xs ys → LcR b P (xs ++ [x]) (ys ++ [y])
  | _, _, .nil => .take hx hp .nil
  | _, _, .skip h t => .skip h (t.snoc_take hx hp)
  | _, _, .take h p t => .take h p (t.snoc_take hx hp)
theorem LcR.len {b : PyData → Bool} {P : PyData → PyData → Prop} : ∀ {xs ys : List PyData}, LcR b P xs ys → ys.length ≤ xs.length
  | _, _, .nil => Nat.le_refl _
  | _, _, .skip _ t => Nat.le_succ_of_le t.len
  | _, _, .take _ _ t => Nat.succ_le_succ t.len
theorem LcR.det {b : PyData → Bool} {g : PyData → PyData} : ∀ {xs ys : List PyData}, LcR b (fun x y => y = g x) xs ys → ys = (xs.filter b).map g
  | _, _, .nil => rfl
  | _, _, .skip h t => by simp [h, t.det]
  | _, _, .take h p t => by simp [h, p, t.det]
theorem LcR.none {P : PyData → PyData → Prop} : ∀ {xs ys : List PyData}, LcR (fun _ => false) P xs ys → ys = []
  | _, _, .nil => rfl
  | _, _, .skip _ t => t.none
  | _, _, .take h _ _ => by cases h
theorem LcR.all {P : PyData → PyData → Prop} : ∀ {xs ys : List PyData}, LcR (fun _ => true) P xs ys → ys.length = xs.length ∧ ∀ y ∈ ys, ∃ x ∈ xs, P x y
  | _, _, .nil => ⟨rfl, fun _ h => by cases h⟩
  | _, _, .skip h _ => by cases h
  | _, _, .take _ p t => by
    obtain ⟨h1, h2⟩ := t.all
    refine ⟨congrArg (· + 1) h1, fun y hy => ?_⟩
    rcases List.mem_cons.mp hy with rfl | hy
    · exact ⟨_, List.mem_cons_self, p⟩
    · obtain ⟨x, h3, h4⟩ := h2 y hy
      exact ⟨x, List.mem_cons_of_mem _ h3, h4⟩
/-- the tests of a clause -/
def semTs (X : Cx) (ifs : List Expr) : TT := fun σ H Q => ∀ (pins : List (Addr × Obj)) (s : Shared), Inv X pins σ H s → wpAny (model X.prog X.w) X.A (forIn ifs true fun c r => if r = true then do let ok ← isTrue c X.env (eval c X.env); pure (ForInStep.yield ok) else pure (ForInStep.yield r)) (TP X pins σ Q) X.xe s
def VTs (F : Fm) (X : Cx) (ifs : List Expr) (δ : DE) (k : Bool → Prop) : Prop := ∀ (σ : L2.St) (H : Hp) (Q : Bool → Hp → Prop), F.ok H → StD X.K F.S H σ δ → (∀ (b : Bool) (H' : Hp), Xt F.C H H' → F.ok H' → k b → Q b H') → semTs X ifs σ H Q
theorem vts_nil {F : Fm} {X : Cx} {δ : DE} : VTs F X [] δ fun b => b = true := fun σ H Q o s q pins sh I => pts_nil.run pins sh σ H Q I (q true H (.refl H) o rfl)
theorem vts_one {F : Fm} {X : Cx} {δ : DE} {c : Expr} {k : Bool → Prop} (h : VT F X c δ k) : VTs F X [c] δ k := fun σ H Q o s q pins sh I => (pts_one (pt_sem X c)).run pins sh σ H Q I (h σ H Q o s q)
section
variable {F : Fm} {X : Cx} {δ : DE} {elt iter : Expr} {ifs : List Expr} {scope : Scope} {pos : Pos} {k : PyData → Prop}
theorem ve_lc_read {x : Str} {px : Pos} (hsf : F.soft) (j : Nat) (b : PyData → Bool) (P : PyData → PyData → Prop)
    (hi : VI F X (.Name x px) iter δ fun ds => ds.length ≤ 100000 ∧
      (∀ d ∈ ds, ∀ (E : Addr) (s : Shared) (H : Hp) (C : Addr) (cl : List (Str × Addr)) (fp : List Addr), VTs (F.more E) (X.blk s H scope (compEnvC scope cl C X.env) fp) ifs (δ.set j (some (.dat d))) fun t => t = b d) ∧
      (∀ d ∈ ds, b d = true → ∀ (E : Addr) (s : Shared) (H : Hp) (C : Addr) (cl : List (Str × Addr)) (fp : List Addr), VE (F.more E) (X.blk s H scope (compEnvC scope cl C X.env) fp) elt (δ.set j (some (.dat d))) (P d)) ∧ ∀ ys, LcR b P ds ys → k (.list ys)) : ∀ (σ : L2.St) (H : Hp) (Q : VK), F.ok H → StD X.K F.S H σ δ → (∀ (v : V) (H' : Hp) (d : PyData), Xt F.C H H' → F.ok H' → Dn X.K F.S H' v d → k d → Q v H') →
    tLc (semI X (.Name x px) iter) (gName j) (fun σ H Q => ∀ (s : Shared) (H' : Hp) (C : Addr) (cl : List (Str × Addr)) (fp : List Addr), semTs (X.blk s H' scope (compEnvC scope cl C X.env) fp) ifs σ H Q) (fun σ H Q => ∀ (s : Shared) (H' : Hp) (C : Addr) (cl : List (Str × Addr)) (fp : List Addr), semE (X.blk s H' scope (compEnvC scope cl C X.env) fp) elt σ H Q) [j] σ H Q := fun σ H Q o s q =>
    (hi σ H _ o s fun J H1 ds e1 o1 wk ⟨hl, ht, he, hk⟩ D hD => by
      have s1 := o.all s e1
      refine ⟨fun i m H' => m = ds.length - i ∧ i ≤ ds.length ∧ Xt F.C H1 H' ∧ F.ok H' ∧ ∃ acc ys, H' D = some (.lst acc) ∧ DnAll X.K (F.more D).S H' acc ys ∧ LcR b P (ds.take i) ys,
        ⟨ds.length, by omega, by omega, .new hD, o1.mono (.new hD), [], [], upd_same, .nil, by rw [List.take_zero]; exact .nil⟩, ?_⟩
      rintro i m H' ⟨rfl, hi, e2, o2, acc, ys, hD', na, hr⟩
      have nD : ¬ F.S D := o1.fresh hD
      by_cases hlt : i < ds.length
      · refine .inr ⟨wk.go i H' e2 hlt, fun H3 => Xt F.C H1 H3 ∧ F.ok H3 ∧ ∃ acc ys, H3 D = some (.lst acc) ∧ DnAll X.K (F.more D).S H3 acc ys ∧ LcR b P (ds.take (i + 1)) ys, fun H3 h3 => ⟨ds.length - (i + 1), by omega, rfl, hlt, h3⟩, fun y H3 hy => ?_⟩
        have hmore : ∀ a, H1 a ≠ none → (F.more D).S a → F.S a := fun a ha z => by
          rcases z with z | z
          · exact z
          · subst z; exact absurd hD ha
        have hsub : ∀ a o, F.C a o → (F.more D).S a ∨ Tb o := fun a o z => (F.sub a o z).imp .inl id
        obtain ⟨e3, n3⟩ := wk.yld (F.more D).S hsub hmore i H' y H3 e2 hy
        have hd : ds[i]? = some ds[i] := by simp [hlt]
        have hm : ds[i] ∈ ds := List.getElem_mem hlt
        have htk : ds.take (i + 1) = ds.take i ++ [ds[i]] := by rw [List.take_add_one, hd]; rfl
        have o3 := o2.mono e3
        have e13 := e2.trans (e3.of0 (C := F.C))
        have hD3 : H3 D = some (.lst acc) := e3.k D _ (fun z => z) hD'
        have mo : (F.more D).ok H3 := o3.more (by rw [hD3]; exact fun z => by cases z)
        have sl3 : StD X.K (F.more D).S H3 σ δ := (s1.less hmore).mono hsub e13
        have sw : StD X.K (F.more D).S H3 ((wipe σ [j]).set j (some y)) (δ.set j (some (.dat ds[i]))) := by
          have e9 : (wipe σ [j]).set j (some y) = σ.set j (some y) := by
            show (σ.set j none).set j (some y) = _
            rw [List.set_set]
          rw [e9]
          exact sl3.setD j (n3 _ hd)
        have wp : wipe ((wipe σ [j]).set j (some y)) [j] = wipe σ [j] := by
          show ((σ.set j none).set j (some y)).set j none = σ.set j none
          rw [List.set_set, List.set_set]
        have keep : ∀ {H4 : Hp}, Xt F.C H3 H4 → H4 D = some (.lst acc) := fun {H4} e4 => e4.k D _ (fun z => (F.sub _ _ z).elim nD nTl) hD3
        refine ⟨wp, fun sh Hs C cl fp => ht _ hm D sh Hs C cl fp _ H3 _ mo sw fun t H4 e4 o4 et => ?_⟩
        have et' : t = b ds[i] := et
        have na4 : DnAll X.K (F.more D).S H4 acc ys := Dn.monoAll hsub (e3.of0.trans e4) _ _ na
        by_cases hb : b ds[i] = true
        · rw [et', hb]
          show (if true = true then _ else _)
          rw [if_pos rfl]
          refine fun sh Hs C cl fp => he _ hm hb D sh Hs C cl fp _ H4 _ o4 (sw.mono hsub e4) fun v H5 z e5 o5 nz hz => ?_
          refine ⟨acc, keep (e4.trans e5), ?_, ?_⟩
          · have h1 := na.length
            have h2 := hr.len
            have h3 : (ds.take i).length ≤ i := by rw [List.length_take]; omega
            exact Nat.lt_of_le_of_lt (show acc.length ≤ 100000 by omega) (by decide)
          · have eu : Xt (fun a _ => (F.more D).S a) H5 (upd H5 D (.lst (acc ++ [v]))) := .put (.inl fun _ => .inr rfl)
            refine ⟨((e13.trans e4).trans e5).put2 hD, ?_, acc ++ [v], ys ++ [z], upd_same, ?_, ?_⟩
            · exact Fm.ok.same hsf o5.less (fun a u sa hu => by
                have hne : a ≠ D := fun z => by
                  subst z
                  rcases sa with sa | sa
                  · exact nD sa
                  · rw [keep (e4.trans e5)] at hu
                    exact sa acc (Option.some.inj hu).symm
                rw [upd_ne hne]; exact hu)
            · exact DnAll.append (Dn.monoAll (S := (F.more D).S) (fun _ _ z => .inl z) eu _ _ (Dn.monoAll hsub e5 _ _ na4)) (.cons (Dn.mono (S := (F.more D).S) (fun _ _ z => .inl z) eu _ _ nz) .nil)
            · rw [htk]; exact hr.snoc_take hb hz
        · have hb' : b ds[i] = false := by simpa using hb
          rw [et', hb']
          show (if false = true then _ else _)
          rw [if_neg Bool.false_ne_true]
          exact ⟨e13.trans e4, o4.less, acc, ys, keep e4, na4, by rw [htk]; exact hr.snoc_skip hb'⟩
      · have e : i = ds.length := by omega
        subst e
        have hr' : LcR b P ds ys := by rw [List.take_length] at hr; exact hr
        refine .inl ⟨wk.stop H' e2, q _ H' _ (e1.trans e2) o2 (.lst ⟨nD, hD'⟩ (Dn.lessAll (fun a _ z => .inl z) _ _ na)) (hk ys hr')⟩)
theorem ve_lc {x : Str} {px : Pos} (j : Nat) (b : PyData → Bool) (P : PyData → PyData → Prop)
    (hi : VI F X (.Name x px) iter δ fun ds => ds.length ≤ 100000 ∧
      (∀ d ∈ ds, ∀ (E : Addr) (s : Shared) (H : Hp) (C : Addr) (cl : List (Str × Addr)) (fp : List Addr), VTs (F.more E) (X.blk s H scope (compEnvC scope cl C X.env) fp) ifs (δ.set j (some (.dat d))) fun t => t = b d) ∧
      (∀ d ∈ ds, b d = true → ∀ (E : Addr) (s : Shared) (H : Hp) (C : Addr) (cl : List (Str × Addr)) (fp : List Addr), VE (F.more E) (X.blk s H scope (compEnvC scope cl C X.env) fp) elt (δ.set j (some (.dat d))) (P d)) ∧ ∀ ys, LcR b P ds ys → k (.list ys))
    (hN : X.N.Nodup) (ok : BlkOk X.N X.env.scope scope [(x, j)]) (hg : ∀ (s : Shared) (H : Hp) (C : Addr) (cl : List (Str × Addr)) (fp : List Addr), PG (X.blk s H scope (compEnvC scope cl C X.env) fp) (.Name x px) (gName j))
    (hc : X.calm = true := by rfl) (hs : ∀ x, foldedSetIterable iter X.env x = pure x := by intro _; rfl) (hsf : F.soft := by first | exact Fm.soft_pure | assumption | exact HasRow.soft (by assumption) | exact Fm.soft_more Fm.soft_pure | exact Fm.soft_more (HasRow.soft (by assumption))) : VE F X (.ListComp elt [⟨.Name x px, iter, ifs, 0⟩] scope pos) δ k := fun σ H Q o s q =>
  (pe_lc (own := [(x, j)]) (g := gName j) (tt := fun σ H Q => ∀ (s : Shared) (H' : Hp) (C : Addr) (cl : List (Str × Addr)) (fp : List Addr), semTs (X.blk s H' scope (compEnvC scope cl C X.env) fp) ifs σ H Q) (te := fun σ H Q => ∀ (s : Shared) (H' : Hp) (C : Addr) (cl : List (Str × Addr)) (fp : List Addr), semE (X.blk s H' scope (compEnvC scope cl C X.env) fp) elt σ H Q)
    hc hN (pi_sem X _ iter) ok hg (fun s H C cl fp => ⟨fun pins sh σ H' Q I h => h s H C cl fp pins sh I⟩) (fun s H C cl fp => ⟨fun pins sh σ H' Q I h => h s H C cl fp pins sh I⟩) hs).sem
    (ve_lc_read hsf j b P hi σ H Q o s q)
end
end Dl
set_option Elab.async false
set_option linter.all false
set_option maxRecDepth 100000
set_option maxHeartbeats 4000000
namespace Dl
open PySem PySem.Spec PyProof.Rows L2
/-! ### a def by its body -/
def startD (N : List Str) (ss : List Sl) : DE := ss.map some ++ List.replicate (N.length - ss.length) none
inductive SlAll (K : PySem.W.Frag) (S : AS) (H : Hp) : List V → List Sl → Prop
  | nil : SlAll K S H [] []
  | cons {v : V} {vs : List V} {s : Sl} {ss : List Sl} : SlD K S H v s → SlAll K S H vs ss → SlAll K S H (v :: vs) (s :: ss)
theorem SlAll.length {K : PySem.W.Frag} {S : AS} {H : Hp} : ∀ {vs : List V} {ss : List Sl}, SlAll K S H vs ss → vs.length = ss.length
  | _, _, .nil => rfl
  | _, _, .cons _ t => congrArg (· + 1) t.length
theorem SlAll.get {K : PySem.W.Frag} {S : AS} {H : Hp} : ∀ {vs : List V} {ss : List Sl} {i : Nat} {s : Sl}, SlAll K S H vs ss → ss[i]? = some s → ∃ v, vs[i]? = some v ∧ SlD K S H v s
  | _, _, _, _, .nil, e => by simp at e
  | _, _, 0, _, .cons r _, e => by simp at e; subst e; exact ⟨_, rfl, r⟩
  | _, _, i + 1, s, .cons _ t, e => by
    obtain ⟨u, h1, h2⟩ := SlAll.get (i := i) (s := s) t (by simpa using e)
    exact ⟨u, by simpa using h1, h2⟩
theorem DnAll.sl {K : PySem.W.Frag} {S : AS} {H : Hp} : ∀ {vs : List V} {ds : List PyData}, DnAll K S H vs ds → SlAll K S H vs (ds.map .dat)
  | _, _, .nil => .nil
  | _, _, .cons h t => .cons h t.sl
theorem std_start {K : PySem.W.Frag} {S : AS} {H : Hp} {N : List Str} {vs : List V} {ss : List Sl} (h : SlAll K S H vs ss) : StD K S H (L2.start N vs) (startD N ss) := by
  have hl := h.length
  refine ⟨by unfold L2.start startD; simp [hl], fun i s q => ?_⟩
  unfold startD at q
  by_cases hi : i < ss.length
  · rw [List.getElem?_append_left (by simpa using hi), List.getElem?_map] at q
    cases e : ss[i]? with
    | none => rw [e] at q; cases q
    | some t =>
      rw [e] at q
      cases q
      obtain ⟨v, h1, h2⟩ := h.get e
      refine ⟨v, ?_, h2⟩
      unfold L2.start
      rw [List.getElem?_append_left (by simpa [hl] using hi), List.getElem?_map, h1]
      rfl
  · rw [List.getElem?_append_right (by simpa using hi), List.getElem?_replicate] at q
    split at q <;> cases q
section
variable {P : Program} {w : World} {K : PySem.W.Frag} {mg : Str → Option Value} {base : Heap}
theorem df_of {x : Str} {st : Stmt} {ps N : List Str} {A : List PyData → PyData → Prop} {k : Nat} (T : At K mg x st ps) (S : FnScope N ps (defScope st)) (hlen : ∀ ds d, A ds d → ds.length = ps.length)
    (h : ∀ (f : Addr) (cdv : Value) (A' : Around) (outer : List Env) (s : Shared) (H : Hp) (E : XK) (S' : AS) (ds : List PyData) (d : PyData), Room k (A'.deeper (envOfC x (defScope st) s.heap.objs.size f cdv)) → A ds d →
      VS (Fm.pure S') (cxOf (L2.CX P w) P w K mg base N x (defScope st) f cdv A' outer s H E).nox (defBody st) (startD N (ds.map .dat)) { nx := fun _ => d = .none, rt := fun y => y = d }) : Df P w K mg base x (k + 1) (spD K A) := by
  obtain ⟨f, fd, F, hm, hb⟩ := T.ex
  refine ⟨f, fd, ps, F.okX S ?_ (fun cdv A' outer s H vs Q E hr hs => ?_), hm, F.kp, hb⟩
  · rintro vs H Q E ⟨S', ds, d, _, hn, hA, _⟩
    rw [hn.length]; exact hlen _ _ hA
  · obtain ⟨S', ds, d, hdom, hn, hA, q⟩ := hs
    refine ⟨_, PSs.nox (pss_sem _ (defBody st)), ?_⟩
    refine h f cdv A' outer s H E S' ds d hr hA (L2.start N vs) H _ ⟨trivial, hdom⟩ (std_start hn.sl) ⟨fun σ' H' δ' e o s2 hd => ?_, fun _ _ _ _ _ _ z => z.elim, fun _ _ _ _ _ _ z => z.elim, fun v H' d' e o n hd => ?_⟩
    · subst hd; exact q _ H' e .non
    · subst hd; exact q v H' e n
/-- the same def by a weaker promise -/
theorem Df.imp {x : Str} {k : Nat} {sp sp' : Sp} (G : Df P w K mg base x k sp) (h : ∀ vs H Q E, sp' vs H Q E → sp vs H Q E) : Df P w K mg base x k sp' := by
  obtain ⟨f, fd, ps, G1, G2, G3, G4⟩ := G.ex
  exact ⟨f, fd, ps, G1.imp h, G2, G3, G4⟩
theorem Df.mono {x : Str} {k j : Nat} {sp : Sp} (G : Df P w K mg base x k sp) (h : k ≤ j) : Df P w K mg base x j sp := by
  obtain ⟨f, fd, ps, G1, G2, G3, G4⟩ := G.ex
  exact ⟨f, fd, ps, G1.mono h, G2, G3, G4⟩
end
end Dl
set_option Elab.async false
set_option linter.all false
set_option maxRecDepth 100000
set_option maxHeartbeats 4000000
namespace Dl
open PySem PySem.Spec PyProof.Rows L2
/-! ### the row of draws: [script, at, mixed, rest] -/
/-- the script stands and is not changed -/
def ScOk (K : PySem.W.Frag) (S : AS) (r scr : Addr) (H : Hp) : Prop := ∃ ns : List Int, ns.length ≤ 63 ∧ ((S scr ∧ scr ≠ r ∧ Rd H scr (.lst (ns.map V.int))) ∨ SqL K (fun _ => none) scr (ns.map V.int))
structure RowOk (K : PySem.W.Frag) (S : AS) (r scr : Addr) (H : Hp) : Prop where
  row : ∃ i s c : Int, 0 ≤ i ∧ 0 ≤ s ∧ s < 2147483647 ∧ 0 ≤ c ∧ H r = some (.lst [.ref scr, .int i, .int s, .int c])
  scr : ScOk K S r scr H
theorem ScOk.sq {K : PySem.W.Frag} {S : AS} {r scr : Addr} {H : Hp} (h : ScOk K S r scr H) : ∃ ns : List Int, ns.length ≤ 63 ∧ SqL K H scr (ns.map V.int) := by
  obtain ⟨ns, hl, h⟩ := h
  refine ⟨ns, hl, ?_⟩
  rcases h with ⟨_, _, h⟩ | h
  · exact .inl h
  · exact sql_w h
theorem ScOk.mono {K : PySem.W.Frag} {S : AS} {r scr : Addr} {H H' : Hp} (e : Xt (fun a _ => a = r) H H') (h : ScOk K S r scr H) : ScOk K S r scr H' := by
  obtain ⟨ns, hl, h⟩ := h
  refine ⟨ns, hl, ?_⟩
  rcases h with ⟨s, n, h⟩ | h
  · exact .inl ⟨s, n, rd_mono e (fun _ _ => n) nTl h⟩
  · exact .inr h
theorem RowOk.same {K : PySem.W.Frag} {S : AS} {r scr : Addr} {H H' : Hp} (hr : S r) (e : ∀ a o, S a → H a = some o → H' a = some o) (h : RowOk K S r scr H) : RowOk K S r scr H' := by
  obtain ⟨⟨i, s, c, h1, h2, h3, h4, h5⟩, ns, hl, hs⟩ := h
  refine ⟨⟨i, s, c, h1, h2, h3, h4, e _ _ hr h5⟩, ns, hl, ?_⟩
  rcases hs with ⟨s, n, h⟩ | h
  · refine .inl ⟨s, n, ?_⟩
    rcases h with h | ⟨o, h⟩
    · exact .inl (e _ _ s h)
    · exact .inr ⟨o, e _ _ s h⟩
  · exact .inr h
/-- the frame of a def that draws -/
def Fm.row (K : PySem.W.Frag) (S : AS) (r scr : Addr) (hr : S r) : Fm := ⟨S, fun a _ => a = r, RowOk K S r scr, fun a _ z => .inl (by subst z; exact hr), fun H H' e h => h.same hr fun a o _ q => e.k a o (fun z => z) q⟩
/-- the promise of a def that draws: row first, then data; some data of which k holds is handed back -/
def spR (K : PySem.W.Frag) (A : List PyData → (PyData → Prop) → Prop) : Sp := fun vs H Q _ => ∃ (S : AS) (r scr : Addr) (vs' : List V) (ds : List PyData) (k : PyData → Prop), vs = .ref r :: vs' ∧ S r ∧ (∀ a, S a → H a ≠ none) ∧ RowOk K S r scr H ∧ DnAll K S H vs' ds ∧ A ds k ∧
  ∀ v H' d, Xt (fun a _ => a = r) H H' → RowOk K S r scr H' → Dn K S H' v d → k d → Q v H'
/-- a frame in which the row at r may be drawn from -/
structure HasRow (F : Fm) (K : PySem.W.Frag) (r : Addr) : Prop where
  s : F.S r
  c : ∀ o, F.C r o
  soft : F.soft
  ok : ∀ H, F.J H → ∃ scr, RowOk K F.S r scr H ∧ ∀ H', Xt (fun a _ => a = r) H H' → RowOk K F.S r scr H' → F.J H'
theorem hasRow {K : PySem.W.Frag} {S : AS} {r scr : Addr} {hr : S r} : HasRow (Fm.row K S r scr hr) K r := ⟨hr, fun _ => rfl, fun H H' e h => h.same hr fun a o s => e a o (.inl s), fun H h => ⟨scr, h, fun H' _ h' => h'⟩⟩
section
variable {F : Fm} {X : Cx} {δ : DE} {k : PyData → Prop} {e : Expr} {es : List Expr} {pos p pr : Pos} {x xr : Str} {r : Addr}
/-- f(row, ..) -/
theorem ve_draw (ir : Nat) {A : List PyData → (PyData → Prop) → Prop} {j n : Nat} (hF : HasRow F X.K r) (G : Df X.prog X.w X.K X.mg X.base x j (spR X.K A)) (hr : Room n X.A) (hj : j ≤ n) (ha : VA F X es δ fun ds => ∃ k', A ds k' ∧ ∀ d, k' d → k d)
    (hrow : δ[ir]? = some (some (.raw (.ref r))) := by rfl) (hN : X.N[ir]? = some xr := by rfl) (hv : Vis X.env.scope xr := by first | exact Or.inl rfl | exact Or.inr (Or.inl rfl) | exact Or.inr (Or.inr rfl)) (hg : Gl X x := by rfl) (hdb : (x == ("__debug__" : Str)) = false := by decide)
    (hdr : (xr == ("__debug__" : Str)) = false := by decide) (hcr : (xr == ("__classdict__" : Str)) = false := by decide)
    (he : starEach (.Name xr pr :: es) X.env = (false, eval (.Name xr pr) X.env) :: starEach es X.env := by rfl) (hpl : (backTo pos (starEach es X.env)).any (·.1) = false := by rfl) : VE F X (.Call (.Name x p) (.Name xr pr :: es) [] pos) δ k := fun σ H Q o s q => by
  obtain ⟨f, fd, ps, G1, G2, G3, G4⟩ := G.ex
  refine (pe_call G1 (hr.mono hj) hg G2 G3 G4 .nil passL (pa_cons (pe_var hN hv hdr hcr) (pa_sem X es) he) hdb he hpl).sem ?_
  obtain ⟨v, h1, h2⟩ := s.at_ ir _ hrow
  have h2' : v = .ref r := h2
  subst h2'
  refine ⟨_, h1, ha σ H _ o s fun vs H1 ds e1 o1 n1 ⟨k', hA, hk⟩ => ?_⟩
  show spR X.K A ((V.ref r :: vs) ++ []) H1 Q E0
  rw [List.append_nil]
  obtain ⟨scr, r1, r2⟩ := hF.ok H1 o1.1
  refine ⟨F.S, r, scr, vs, ds, k', rfl, hF.s, o1.2, r1, n1, hA, fun v H' d e2 ro n2 kd => ?_⟩
  have e3 : Xt F.C H1 H' := e2.mono fun a o z => by subst z; exact hF.c o
  refine q v H' d (e1.trans e3) ⟨r2 H' e2 ro, fun a sa z => ?_⟩ n2 (hk d kd)
  by_cases hr : a = r
  · subst hr
    obtain ⟨i, s', c, _, _, _, _, h5⟩ := ro.row
    rw [h5] at z; cases z
  · cases q : H1 a with
    | none => exact o1.2 a sa q
    | some u => rw [e2.k a u hr q] at z; cases z
end
section
variable {P : Program} {w : World} {K : PySem.W.Frag} {mg : Str → Option Value} {base : Heap}
theorem dr_of {x : Str} {st : Stmt} {ps N : List Str} {A : List PyData → (PyData → Prop) → Prop} {k : Nat} (T : At K mg x st ps) (S : FnScope N ps (defScope st)) (hlen : ∀ ds d, A ds d → ds.length + 1 = ps.length)
    (h : ∀ (f : Addr) (cdv : Value) (A' : Around) (outer : List Env) (s : Shared) (H : Hp) (E : XK) (F : Fm) (r : Addr) (ds : List PyData) (k' : PyData → Prop), Room k (A'.deeper (envOfC x (defScope st) s.heap.objs.size f cdv)) → HasRow F K r → A ds k' →
      VS F (cxOf (L2.CX P w) P w K mg base N x (defScope st) f cdv A' outer s H E).nox (defBody st) (startD N (.raw (.ref r) :: ds.map .dat)) { nx := fun _ => k' .none, rt := k' }) : Df P w K mg base x (k + 1) (spR K A) := by
  obtain ⟨f, fd, F, hm, hb⟩ := T.ex
  refine ⟨f, fd, ps, F.okX S ?_ (fun cdv A' outer s H vs Q E hr hs => ?_), hm, F.kp, hb⟩
  · rintro vs H Q E ⟨S', r, scr, vs', ds, d, rfl, _, _, _, hn, hA, _⟩
    show vs'.length + 1 = ps.length
    rw [hn.length]; exact hlen _ _ hA
  · obtain ⟨S', r, scr, vs', ds, k', rfl, hs, hdom, hrow, hn, hA, q⟩ := hs
    refine ⟨_, PSs.nox (pss_sem _ (defBody st)), ?_⟩
    refine h f cdv A' outer s H E (Fm.row K S' r scr hs) r ds k' hr hasRow hA (L2.start N (.ref r :: vs')) H _ ⟨hrow, hdom⟩ (std_start (ss := .raw (.ref r) :: ds.map .dat) (.cons rfl hn.sl)) ⟨fun σ' H' δ' e o s2 hd => ?_, fun _ _ _ _ _ _ z => z.elim, fun _ _ _ _ _ _ z => z.elim, fun v H' d' e o n hd => ?_⟩
    · exact q _ H' _ e o.1 .non hd
    · exact q v H' d' e o.1 n hd
/-- _law_taken -/
def A_taken : List PyData → (PyData → Prop) → Prop := fun ds k => ∃ m : Int, 0 < m ∧ m < 2 ^ 64 ∧ ds = [.int m] ∧ k = fun d => ∃ i : Int, d = .int i ∧ 0 ≤ i ∧ i < m
end
theorem atI_int {α : Type} {xs : List α} {i : Int} (h0 : 0 ≤ i) (h1 : i < xs.length) : ∃ d, atI xs i = some d ∧ xs[i.toNat]? = some d ∧ d ∈ xs := by
  have hi : i.toNat < xs.length := by omega
  refine ⟨xs[i.toNat], ?_, by simp [hi], List.getElem_mem hi⟩
  unfold atI ixN
  rw [if_pos h0, if_pos h1]
  simp [hi]
theorem va_consD {F : Fm} {X : Cx} {δ : DE} {e : Expr} {es : List Expr} {d : PyData} {k : List PyData → Prop} (he : VD F X e δ d) (hr : VA F X es δ fun ds => k (d :: ds)) (hs : starEach (e :: es) X.env = (false, eval e X.env) :: starEach es X.env := by rfl) : VA F X (e :: es) δ k := va_cons (he.to hr) hs
def A_pick : List PyData → (PyData → Prop) → Prop := fun ds k => ∃ xs : List PyData, xs ≠ [] ∧ xs.length ≤ 100000 ∧ ds = [.list xs] ∧ k = fun d => d ∈ xs
section
variable {F : Fm} {X : Cx} {δ : DE} {k : PyData → Prop} {e : Expr} {pos p pr : Pos} {xr : Str} {r : Addr} {m : Int} {n : Nat}
/-- _law_taken(row, e) -/
theorem ve_taken (ir : Nat) (hF : HasRow F X.K r) (G : Df X.prog X.w X.K X.mg X.base "_law_taken" 1 (spR X.K A_taken)) (hr : Room n X.A) (hj : 1 ≤ n) (he : VD F X e δ (.int m)) (h0 : 0 < m) (h1 : m < 2 ^ 64) (hk : ∀ i : Int, 0 ≤ i → i < m → k (.int i))
    (hrow : δ[ir]? = some (some (.raw (.ref r))) := by rfl) (hN : X.N[ir]? = some xr := by rfl) (hv : Vis X.env.scope xr := by first | exact Or.inl rfl | exact Or.inr (Or.inl rfl) | exact Or.inr (Or.inr rfl)) (hg : Gl X "_law_taken" := by rfl)
    (hdr : (xr == ("__debug__" : Str)) = false := by decide) (hcr : (xr == ("__classdict__" : Str)) = false := by decide)
    (hs : starEach [.Name xr pr, e] X.env = (false, eval (.Name xr pr) X.env) :: starEach [e] X.env := by rfl) (hs2 : starEach [e] X.env = [(false, eval e X.env)] := by rfl) : VE F X (.Call (.Name "_law_taken" p) [.Name xr pr, e] [] pos) δ k :=
  ve_draw ir hF G hr hj (VA.to (vl_cons he vl_nil hs2) ⟨_, ⟨m, h0, h1, rfl, rfl⟩, fun d ⟨i, e1, a, b⟩ => by subst e1; exact hk i a b⟩) hrow hN hv hg (by decide) hdr hcr hs (by rw [hs2]; rfl)
/-- _law_pick(row, e) -/
theorem ve_pick (ir : Nat) (hF : HasRow F X.K r) (G : Df X.prog X.w X.K X.mg X.base "_law_pick" 2 (spR X.K A_pick)) (hr : Room n X.A) (hj : 2 ≤ n) (he : VE F X e δ fun d => ∃ xs, d = .list xs ∧ xs ≠ [] ∧ xs.length ≤ 100000 ∧ ∀ x ∈ xs, k x)
    (hrow : δ[ir]? = some (some (.raw (.ref r))) := by rfl) (hN : X.N[ir]? = some xr := by rfl) (hv : Vis X.env.scope xr := by first | exact Or.inl rfl | exact Or.inr (Or.inl rfl) | exact Or.inr (Or.inr rfl)) (hg : Gl X "_law_pick" := by rfl)
    (hdr : (xr == ("__debug__" : Str)) = false := by decide) (hcr : (xr == ("__classdict__" : Str)) = false := by decide)
    (hs : starEach [.Name xr pr, e] X.env = (false, eval (.Name xr pr) X.env) :: starEach [e] X.env := by rfl) (hs2 : starEach [e] X.env = [(false, eval e X.env)] := by rfl) : VE F X (.Call (.Name "_law_pick" p) [.Name xr pr, e] [] pos) δ k :=
  ve_draw ir hF G hr hj (va_cons (he.mono fun d ⟨xs, e1, a, b, c⟩ => va_nil ⟨_, ⟨xs, a, b, by rw [e1], rfl⟩, c⟩) hs2) hrow hN hv hg (by decide) hdr hcr hs (by rw [hs2]; rfl)
end
end Dl
set_option Elab.async false
set_option linter.all false
set_option maxRecDepth 100000
set_option maxHeartbeats 4000000
namespace Dl
open PySem PySem.Spec PyProof.Rows L2
section
variable {F : Fm} {X : Cx} {δ : DE} {k : PyData → Prop} {e a b : Expr} {pos p : Pos} {x : Str} {ds es : List PyData} {R : Out} {rest : List Stmt}
/-- tuple + tuple, lists + -/
theorem opd_catT {K : PySem.W.Frag} {xs ys : List PyData} (hx : xs ≠ []) (hy : ys ≠ []) (hl : xs.length + ys.length ≤ 100000) : OpD K (rCatTF K) (.tuple xs) (.tuple ys) (.tuple (xs ++ ys)) := fun S H ux uy Q hS nx ny q => by
  cases nx with
  | tup s1 a1 =>
    cases ny with
    | tup s2 a2 =>
      have l1 := a1.length
      have l2 := a2.length
      refine ⟨_, _, _, _, rfl, rfl, s1.sq, s2.sq, fun z => ?_, fun z => ?_, by rw [l1, l2]; exact sz_le hl, fun p ob hd hp => q _ _ (.new hp) (.tup (.inl ⟨fun z => hS _ z hp, ob, hd, upd_same⟩) (Dn.monoAll (C := C0) (fun _ _ z => z.elim) (.new hp) _ _ (a1.append a2)))⟩
      · subst z; exact hx (List.length_eq_zero_iff.mp l1.symm)
      · subst z; exact absurd (List.length_eq_zero_iff.mp l2.symm) hy
theorem vd_catT {xs ys : List PyData} (ha : VD F X a δ (.tuple xs)) (hb : VD F X b δ (.tuple ys)) (hx : xs ≠ [] := by simp) (hy : ys ≠ [] := by simp) (hl : xs.length + ys.length ≤ 100000 := by simp) : VD F X (.BinOp a .Add b pos) δ (.tuple (xs ++ ys)) := vd_op op_catTF (opd_catT hx hy hl) ha hb
/-- tuple(list) -/
theorem vd_tupL (hm : X.mg "tuple" = none) (ha : VD F X a δ (.list ds)) (hg : Gl X "tuple" := by rfl) (he : starEach [a] X.env = [(false, eval a X.env)] := by rfl) : VD F X (.Call (.Name "tuple" p) [a] [] pos) δ (.tuple ds) :=
  ve_callTy call_tupleF hm (by decide +kernel) (VA.to (vl_cons ha vl_nil he) ⟨_, fun S H vs Q hS n q => by
    cases n with
    | cons n1 n2 =>
      cases n2
      cases n1 with
      | lst sq al => exact ⟨_, _, rfl, sq.sq, fun l ob hd hl => q _ _ (.new hl) (.tup (.inl ⟨fun z => hS _ z hl, ob, hd, upd_same⟩) (Dn.monoAll (C := C0) (fun _ _ z => z.elim) (.new hl) _ _ al))⟩, rfl⟩) hg (by decide) (by decide) he rfl
/-- y = [elt for x in iter if ..] -/
theorem vs_setLc {y xx : Str} {py px : Pos} {elt iter : Expr} {ifs : List Expr} {scope : Scope} {spos : Pos} (i j : Nat) (bt : PyData → Bool) (P : PyData → PyData → Prop)
    (hi : VI F X (.Name xx px) iter δ fun ds => ds.length ≤ 100000 ∧
      (∀ d ∈ ds, ∀ (E : Addr) (s : Shared) (H : Hp) (C : Addr) (cl : List (Str × Addr)) (fp : List Addr), VTs (F.more E) (X.blk s H scope (compEnvC scope cl C X.env) fp) ifs (δ.set j (some (.dat d))) fun t => t = bt d) ∧
      (∀ d ∈ ds, bt d = true → ∀ (E : Addr) (s : Shared) (H : Hp) (C : Addr) (cl : List (Str × Addr)) (fp : List Addr), VE (F.more E) (X.blk s H scope (compEnvC scope cl C X.env) fp) elt (δ.set j (some (.dat d))) (P d)) ∧
      ∀ ys, LcR bt P ds ys → VS F X rest (δ.set i (some (.dat (.list ys)))) R)
    (hN : X.N.Nodup) (ok : BlkOk X.N X.env.scope scope [(xx, j)]) (hg : ∀ (s : Shared) (H : Hp) (C : Addr) (cl : List (Str × Addr)) (fp : List Addr), PG (X.blk s H scope (compEnvC scope cl C X.env) fp) (.Name xx px) (gName j))
    (hsw : swapsWith (.ListComp elt [⟨.Name xx px, iter, ifs, 0⟩] scope pos) (some (.Name y py)) spos.line X.env = pure true) (hy : X.N[i]? = some y := by rfl) (hyl : X.env.scope.names.lookup y = some .local := by rfl) (hc : X.calm = true := by rfl) (hs : ∀ x, foldedSetIterable iter X.env x = pure x := by intro _; rfl) (hsf : F.soft := by first | exact Fm.soft_pure | assumption | exact HasRow.soft (by assumption) | exact Fm.soft_more Fm.soft_pure | exact Fm.soft_more (HasRow.soft (by assumption))) :
    VS F X (.Assign [.Name y py] (.ListComp elt [⟨.Name xx px, iter, ifs, 0⟩] scope pos) spos :: rest) δ R := by
  refine vs_by (ps_setLc (i := i) (own := [(xx, j)]) (g := gName j) (wi := semI X (.Name xx px) iter) (tt := fun σ H Q => ∀ (s : Shared) (H' : Hp) (C : Addr) (cl : List (Str × Addr)) (fp : List Addr), semTs (X.blk s H' scope (compEnvC scope cl C X.env) fp) ifs σ H Q) (te := fun σ H Q => ∀ (s : Shared) (H' : Hp) (C : Addr) (cl : List (Str × Addr)) (fp : List Addr), semE (X.blk s H' scope (compEnvC scope cl C X.env) fp) elt σ H Q)
    hc hN hy hyl hsw (pi_sem X _ iter) ok hg (fun s H C cl fp => ⟨fun pins sh σ H' Q I h => h s H C cl fp pins sh I⟩) (fun s H C cl fp => ⟨fun pins sh σ H' Q I h => h s H C cl fp pins sh I⟩) hs) fun σ H D o s q => ?_
  have core := ve_lc_read (F := F) (X := X) (δ := δ) (elt := elt) (iter := iter) (ifs := ifs) (scope := scope) (x := xx) (px := px) (k := fun d => VS F X rest (δ.set i (some (.dat d))) R) hsf j bt P (fun σ H R o s h => hi σ H R o s fun J H' ds e o w kk => h J H' ds e o w ⟨kk.1, kk.2.1, kk.2.2.1, fun ys hy => kk.2.2.2 ys hy⟩)
  exact core σ H _ o s fun v H1 d e1 o1 n1 kd => kd _ H1 D o1 ((o.all s e1).setD i n1) (q.mono e1)
end
/-! ### the law -/
def spLaw (K : PySem.W.Frag) : Sp := fun vs H Q _ => ∃ (a : Addr) (ns : List Int), vs = [.ref a] ∧ SqL K H a (ns.map V.int) ∧ ns.length ≤ 63 ∧ ∀ H', Q (.bl true) H'
section
variable {P : Program} {w : World} {K : PySem.W.Frag} {mg : Str → Option Value} {base : Heap}
/-- def law(script): row = [script, 0, c, 0]; .. -/
theorem law_of {st : Stmt} {N : List Str} {k : Nat} {c : Int} {f : Addr} {fd : FuncData} {rest : List Stmt} {p1 p2 p3 p4 p5 p6 p7 : Pos} {j1 j2 j3} (Fu : Fun K "law" "law" st f fd) (S : FnScope N ["script"] (defScope st)) (c0 : 0 ≤ c) (c1 : c < 2147483647)
    (hbody : defBody st = .Assign [.Name "row" p1] (.List [.Name "script" p2, .Constant (.int 0) j1 p3, .Constant (.int c) j2 p4, .Constant (.int 0) j3 p5] p6) p7 :: rest) (h0 : N[0]? = some (("script" : Str))) (h1 : N[1]? = some ("row" : Str)) (hv0 : (defScope st).names.lookup ("script" : Str) = some .local) (hv1 : (defScope st).names.lookup ("row" : Str) = some .local ∨ (defScope st).names.lookup ("row" : Str) = some .cell)
    (h : ∀ (f : Addr) (cdv : Value) (A' : Around) (outer : List Env) (s : Shared) (H : Hp) (E : XK) (F : Fm) (r a : Addr), Room k (A'.deeper (envOfC "law" (defScope st) s.heap.objs.size f cdv)) → HasRow F K r →
      VS F (cxOf CX0 P w K mg base N "law" (defScope st) f cdv A' outer s H E).nox rest ((startD N [.raw (.ref a)]).set 1 (some (.raw (.ref r)))) { nx := fun _ => False, rt := fun y => y = .bool true })
    (hsw : ∀ (X : Cx), swapsWith (.List [.Name "script" p2, .Constant (.int 0) j1 p3, .Constant (.int c) j2 p4, .Constant (.int 0) j3 p5] p6) (some (.Name "row" p1)) p7.line X.env = pure false) (hst : ∀ (X : Cx), X.env.scope = defScope st → starEach [.Name "script" p2, .Constant (.int 0) j1 p3, .Constant (.int c) j2 p4, .Constant (.int 0) j3 p5] X.env = (false, eval (.Name "script" p2) X.env) :: starEach [.Constant (.int 0) j1 p3, .Constant (.int c) j2 p4, .Constant (.int 0) j3 p5] X.env) :
    FnOk P w K mg base CX0 (k + 1) f fd ["script"] (spLaw K) := by
  refine Fu.ok S ?_ (fun cdv A' outer s H vs Q E hr hs => ?_)
  · rintro vs H Q E ⟨a, ns, rfl, _⟩; rfl
  · obtain ⟨a, ns, rfl, hsq, hl, q⟩ := hs
    rw [hbody]
    generalize hX : (cxOf CX0 P w K mg base N "law" (defScope st) f cdv A' outer s H E).nox = X
    have hXN : X.N = N := by subst hX; rfl
    have hXs : X.env.scope = defScope st := by subst hX; rfl
    have hXfn : X.fn "row" = true := by subst hX; rfl
    have nd : X.N.Nodup := by rw [hXN]; exact S.nd
    refine ⟨_, pss_cons (ps_set (i := 1) nd (by rw [hXN]; exact h1) (by unfold L2.Loc; rw [hXs]; exact hv1) (pe_lst (pa_cons (pe_var (i := 0) (by rw [hXN]; exact h0) (.inl (by rw [hXs]; exact hv0))) (pa_cons pe_int (pa_cons pe_int (pa_cons pe_int pa_nil))) (hst X hXs))) (hsw X) (.inl hXfn)) (pss_sem X rest), ?_⟩
    refine ⟨_, rfl, by show 4 ≤ sizeLine; decide, fun p hp => ?_⟩
    have ne : ∀ u, H a = some u → a ≠ p := fun u e z => by rw [z, hp] at e; cases e
    have xt : Xt C0 H (upd H p (.lst [.ref a, .int 0, .int c, .int 0])) := .new hp
    have hS : (fun b => b = p ∨ (b = a ∧ H a ≠ none)) p := .inl rfl
    have row : RowOk K (fun b => b = p ∨ (b = a ∧ H a ≠ none)) p a (upd H p (.lst [.ref a, .int 0, .int c, .int 0])) := by
      refine ⟨⟨0, c, 0, by decide, c0, c1, by decide, upd_same⟩, ns, hl, ?_⟩
      rcases hsq with h | h
      · have h' : H a ≠ none := rd_some h
        refine .inl ⟨.inr ⟨rfl, h'⟩, ?_, rd_mono xt (fun _ _ z => z) nTl h⟩
        intro z
        rw [z] at h'
        exact h' hp
      · exact .inr (.inr h)
    have hbod := h f cdv A' outer s H E (Fm.row K (fun b => b = p ∨ (b = a ∧ H a ≠ none)) p a hS) p a hr hasRow
    rw [hX] at hbod
    have ok : (Fm.row K (fun b => b = p ∨ (b = a ∧ H a ≠ none)) p a hS).ok (upd H p (.lst [.ref a, .int 0, .int c, .int 0])) := ⟨row, fun b hb => by
      rcases hb with rfl | ⟨rfl, hb⟩
      · rw [upd_same]; exact fun z => by cases z
      · by_cases e : b = p
        · subst e; exact absurd hp hb
        · rw [upd_ne e]; exact hb⟩
    have sd : StD X.K (Fm.row K (fun b => b = p ∨ (b = a ∧ H a ≠ none)) p a hS).S (upd H p (.lst [.ref a, .int 0, .int c, .int 0])) ((L2.start N [.ref a]).set 1 (some (.ref p))) ((startD N [.raw (.ref a)]).set 1 (some (.raw (.ref p)))) :=
      (std_start (ss := [.raw (.ref a)]) (.cons rfl .nil)).set (s := .raw (.ref p)) 1 rfl
    exact hbod _ _ _ ok sd ⟨fun _ _ _ _ _ _ z => z.elim, fun _ _ _ _ _ _ z => z.elim, fun _ _ _ _ _ _ z => z.elim, fun v H' d _ _ n hd => by
      subst hd
      cases n
      exact q _⟩
/-! ### what the top has written -/
theorem at_mk {h : Heap} {x : Str} {st : Stmt} {ps : List Str} {f : Addr} {oc : Value} {od an : Option Addr} {osl : Array (Option Value)} {kV dc pm cd ct : Value} (X : K.In h) (G : h.Ns mainGlobals mg) (a : PySem.W.nsIn K mainGlobals x = some (some (.ref f)))
    (l : K.lookup f = some ⟨oc, od, .func (PySem.W.fnOf x x (defArgs st) (defBody st) (defScope st) .none kV dc pm an cd ct), osl⟩) (c : PySem.W.codeIn K cd x = true) (k : PySem.W.keepIn K (.ref f) = true)
    (hb : ∀ (kV doc pm : Value) (an : Option Addr) (cdv ct : Value) (us : List Value), us.length = ps.length → bindArgs (PySem.W.fnOf x x (defArgs st) (defBody st) (defScope st) .none kV doc pm an cdv ct) ⟨us, []⟩ = pure (ps.zip us)) : At K mg x st ps :=
  ⟨f, _, fun_mk (st := st) l c k, PySem.W.mg_of X G a, (fun_mk (st := st) l c k).binds hb⟩
theorem dn_mk {h : Heap} {x : Str} {t : Addr} {d : Data} {sl : Array (Option Value)} (X : K.In h) (G : h.Ns mainGlobals mg) (a : PySem.W.nsIn K mainGlobals x = some (some (.ref t))) (l : K.lookup t = some ⟨.type "tuple", none, d, sl⟩) : ∀ a, mg x = some (.ref a) → DN K a := fun b e => by
  rw [PySem.W.mg_of X G a] at e
  cases e
  exact ⟨_, l, rfl, rfl⟩
theorem tup_mk {h : Heap} {x : Str} {vs : List V} {t : Addr} {dd : Option Addr} {its : Array Value} {n : Nat} {sl : Array (Option Value)} (X : K.In h) (G : h.Ns mainGlobals mg) (a : PySem.W.nsIn K mainGlobals x = some (some (.ref t))) (l : K.lookup t = some ⟨.type "tuple", dd, .seq its n, sl⟩) (v : Vals vs its.toList) (hz : vs.length ≤ sizeLine) :
    ∃ a, mg x = some (.ref a) ∧ SqT K (fun _ => none) a vs :=
  ⟨t, PySem.W.mg_of X G a, .inr ⟨_, its, n, l, rfl, rfl, by rw [← Array.length_toList, ← v.length]; exact hz, v⟩⟩
end
end Dl
set_option Elab.async false
set_option linter.all false
set_option maxRecDepth 100000
set_option maxHeartbeats 4000000
namespace Dl
open PySem PySem.Spec PyProof.Rows L2 StX
section
variable {F : Fm} {X : Cx} {δ : DE} {k : PyData → Prop} {e a b : Expr} {es : List Expr} {pos p px py : Pos} {x y : Str} {ds : List PyData} {R : Out} {rest : List Stmt} {v : V}
/-- e comes to this very value -/
def VR (F : Fm) (X : Cx) (e : Expr) (δ : DE) (v : V) : Prop := ∀ (σ : L2.St) (H : Hp) (Q : VK), F.ok H → StD X.K F.S H σ δ → (∀ H' : Hp, Xt F.C H H' → F.ok H' → Q v H') → semE X e σ H Q
theorem VR.sc {d : PyData} (h : VR F X e δ v) (hs : scV d = some v) : VD F X e δ d := fun σ H Q o s q => h σ H Q o s fun H' e o' => q v H' d e o' (dn_sc hs) rfl
theorem vr_glob {u : Value} (hm : X.mg x = some u) (r : RelV v u) (hg : Gl X x := by rfl) (hd : (x == ("__debug__" : Str)) = false := by decide) : VR F X (.Name x pos) δ v := fun σ H Q o s q => (pe_glob hg hm r hd).sem (q H (.refl H) o)
/-- a written tuple's name -/
theorem vd_globT {t : Addr} {vs : List V} (hm : X.mg x = some (.ref t)) (hq : SqT X.K (fun _ => none) t vs) (hn : DN X.K t) (hv : ds.map scV = vs.map some) (hg : Gl X x := by rfl) (hd : (x == ("__debug__" : Str)) = false := by decide) : VD F X (.Name x pos) δ (.tuple ds) := fun σ H Q o s q =>
  (pe_glob (v := .ref t) hg hm rfl hd).sem (q _ H _ (.refl H) o (.tup (.inr ⟨hq, hn⟩) (flat_dn ⟨vs, hv, rfl⟩)) rfl)
/-- D[e], D a written dict of texts -/
theorem vr_kd {q : Addr} {z : Str} (ha : VR F X a δ (.ref q)) (hb : VD F X b δ (.str z)) (hk : KDct X.K X.w q z v) (hs : PlainIx b := by intro _ _; rfl) : VR F X (.Subscript a b pos) δ v := fun σ H Q o s qq =>
  (pe_ix ix_kdict (pe_sem X a) (pe_sem X b) hs).sem (ha σ H _ o s fun H1 e1 o1 => hb σ H1 _ o1 (o.all s e1) fun u H2 d e2 o2 n2 kd => by
    subst kd
    exact ⟨q, z, v, rfl, n2.sc rfl, hk, qq H2 (e1.trans e2) o2⟩)
/-- x = e, e this very value -/
theorem vs_asgR (i : Nat) (he : VR F X e δ v) (hr : VS F X rest (δ.set i (some (.raw v))) R) (hN : X.N.Nodup) (hi : X.N[i]? = some x := by rfl) (hx : Loc X.env.scope x := by first | exact Or.inl rfl | exact Or.inr rfl) (hs : swapsWith e (some (.Name x px)) pos.line X.env = pure false := by rfl)
    (hf : X.fn x = true ∨ X.env.scope.names.lookup x = some .local := by first | exact .inl rfl | exact .inr rfl) : VS F X (.Assign [.Name x px] e pos :: rest) δ R :=
  vs_by (ps_set hN hi hx (pe_sem X e) hs hf) fun σ H D o s q => he σ H _ o s fun H1 e1 o1 => hr _ H1 D o1 ((o.all s e1).set (s := .raw v) i rfl) (q.mono e1)
end
/-! ### comprehensions without a condition -/
section
variable {F : Fm} {X : Cx} {δ : DE} {pos p px py : Pos} {x y : Str} {ds : List PyData} {R : Out} {rest : List Stmt} {elt iter : Expr} {scope : Scope} {spos : Pos}
/-- [elt for x in iter] -/
theorem vd_lcm (j : Nat) (g : PyData → PyData) (hi : VI F X (.Name x px) iter δ fun xs => xs = ds) (hl : ds.length ≤ 100000)
    (he : ∀ d ∈ ds, ∀ (E : Addr) (s : Shared) (H : Hp) (C : Addr) (cl : List (Str × Addr)) (fp : List Addr), VD (F.more E) (X.blk s H scope (compEnvC scope cl C X.env) fp) elt (δ.set j (some (.dat d))) (g d))
    (hN : X.N.Nodup) (ok : BlkOk X.N X.env.scope scope [(x, j)]) (hg : ∀ (s : Shared) (H : Hp) (C : Addr) (cl : List (Str × Addr)) (fp : List Addr), PG (X.blk s H scope (compEnvC scope cl C X.env) fp) (.Name x px) (gName j))
    (hc : X.calm = true := by rfl) (hs : ∀ x, foldedSetIterable iter X.env x = pure x := by intro _; rfl) (hsf : F.soft := by first | exact Fm.soft_pure | assumption | exact HasRow.soft (by assumption) | exact Fm.soft_more Fm.soft_pure | exact Fm.soft_more (HasRow.soft (by assumption))) : VD F X (.ListComp elt [⟨.Name x px, iter, [], 0⟩] scope pos) δ (.list (ds.map g)) :=
  ve_lc j (fun _ => true) (fun x y => y = g x) (fun σ H R o s h => hi σ H R o s fun J H' ds' e o w kk => by
    subst kk
    exact h J H' ds' e o w ⟨hl, fun _ _ _ _ _ _ _ _ => vts_nil, fun d hd _ => he d hd, fun ys hy => by rw [LcR.det hy, List.filter_eq_self.mpr (fun _ _ => rfl)]⟩) hN ok hg hc hs hsf
end
/-! ### a written dict of texts -/
def KdI (K : PySem.W.Frag) (w : World) (q : Addr) : List (Str × Int) → Prop
  | [] => True
  | (z, i) :: r => KDct K w q z (.int i) ∧ KdI K w q r
def KdF (K : PySem.W.Frag) (w : World) (mg : Str → Option Value) (q : Addr) : List (Str × Str) → Prop
  | [] => True
  | (z, n) :: r => (∃ f, mg n = some (.ref f) ∧ KDct K w q z (.ref f)) ∧ KdF K w mg q r
def KeF (K : PySem.W.Frag) (q : Addr) : List (Str × Str) → Prop
  | [] => True
  | (z, n) :: r => (∃ f, PySem.W.nsIn K mainGlobals n = some (some (.ref f)) ∧ PySem.W.nsIn K q z = some (some (.ref f))) ∧ KeF K q r
section
variable {K : PySem.W.Frag} {w : World} {mg : Str → Option Value} {h : Heap} {x : Str} {q : Addr} {es : Array DictEntry} {n : Nat}
theorem KdI.get : ∀ {L : List (Str × Int)} {z : Str} {i : Int}, KdI K w q L → (z, i) ∈ L → KDct K w q z (.int i)
  | (z, i) :: r, _, _, ⟨h, _⟩, .head _ => h
  | _ :: r, _, _, ⟨_, h⟩, .tail _ m => KdI.get h m
theorem KdF.get : ∀ {L : List (Str × Str)} {z n : Str}, KdF K w mg q L → (z, n) ∈ L → ∃ f, mg n = some (.ref f) ∧ KDct K w q z (.ref f)
  | (z, i) :: r, _, _, ⟨h, _⟩, .head _ => h
  | _ :: r, _, _, ⟨_, h⟩, .tail _ m => KdF.get h m
theorem kdF_all (X : K.In h) (G : h.Ns mainGlobals mg) (l : K.lookup q = some ⟨.type "dict", none, .dict es n, #[]⟩) (hk : PySem.W.KeysLit w.params es.toList) : ∀ {L : List (Str × Str)}, KeF K q L → KdF K w mg q L
  | [], _ => trivial
  | (z, i) :: r, ⟨⟨f, e1, e⟩, h⟩ => ⟨⟨f, PySem.W.mg_of X G e1, ⟨es, n, _, l, hk, e, rfl⟩⟩, kdF_all X G l hk h⟩
theorem kdF_mk {L : List (Str × Str)} (X : K.In h) (G : h.Ns mainGlobals mg) (a : PySem.W.nsIn K mainGlobals x = some (some (.ref q))) (l : K.lookup q = some ⟨.type "dict", none, .dict es n, #[]⟩) (hk : PySem.W.KeysLit w.params es.toList) (e : KeF K q L) : ∃ a, mg x = some (.ref a) ∧ KdF K w mg a L :=
  ⟨q, PySem.W.mg_of X G a, kdF_all X G l hk e⟩
end
end Dl
set_option Elab.async false
set_option linter.all false
set_option maxRecDepth 100000
/-! Fx: formats as plain Lean, and their data -/
namespace Fx
open PySem
inductive Mode | even | away | down | up | zero
  deriving DecidableEq
def Mode.s : Mode → Str
  | .even => "even" | .away => "away" | .down => "down" | .up => "up" | .zero => "zero"
def tinyS (g : Bool) : Str := if g then "gradual" else "flush"
def hugeS (f : Bool) : Str := if f then "infinite" else "largest"
structure Form where
  p : Nat
  low : Int
  e : Nat
  mode : Mode
  g : Bool
  inf : Bool
structure Form.Ok (f : Form) : Prop where
  p4 : 4 ≤ f.p
  p10 : f.p ≤ 10
  e20 : f.e ≤ 20
  lo : -40 ≤ f.low
  hi : f.low + f.e ≤ 40
def encF (f : Form) : PyData := .tuple [.int f.p, .int f.low, .int (f.low + f.e), .str f.mode.s, .str (tinyS f.g), .str (hugeS f.inf)]
def top (f : Form) : Int := (2 ^ f.p - 1) * 2 ^ f.e
end Fx
set_option Elab.async false
set_option linter.all false
set_option maxRecDepth 100000
/-! Fx: numbers and roundings as plain Lean -/
namespace Fx
open PySem
inductive Res | fin (i : Int) | pinf | ninf
  deriving DecidableEq
/-- bits of a natural number -/
def bln (n : Nat) : Nat := if n = 0 then 0 else n.log2 + 1
/-- trailing zeros, the odd part -/
def tzF : Nat → Int → Nat
  | 0, _ => 0
  | n + 1, u => if u % 2 = 0 then tzF n (u / 2) + 1 else 0
def tz (u : Int) : Nat := tzF u.natAbs u
def od (u : Int) : Int := u / 2 ^ tz u
/-- the same in natural numbers -/
def nrmN (f : Form) : Nat := 2 ^ (f.p - 1)
def topN (f : Form) : Nat := (2 ^ f.p - 1) * 2 ^ f.e
/-- is so many units, without its sign, a number -/
def numN (f : Form) (s : Nat) : Bool := if s < nrmN f then (s == 0 || f.g) else decide (s ≤ topN f) && (s % 2 ^ (bln s - f.p) == 0)
def isNum (f : Form) (u : Int) : Bool := numN f u.natAbs
/-- neighbours of a fraction whose whole part is w, without its sign -/
def nb (f : Form) (w : Nat) : Nat × Nat := if w < nrmN f ∧ f.g = false then (0, nrmN f) else (w - w % 2 ^ (bln w - f.p), w - w % 2 ^ (bln w - f.p) + 2 ^ (bln w - f.p))
/-- takes the outer neighbour: x and y: twice the fraction, the sum of the neighbours -/
def goOut (m : Mode) (neg : Bool) (x y : Int) (im : Nat) : Bool := match m with
  | .zero => false
  | .down => neg
  | .up => !neg
  | .even => if x ≠ y then decide (y < x) else im % 2 == 1
  | .away => if x ≠ y then decide (y < x) else true
def mag (f : Form) (neg : Bool) (a b : Nat) : Nat :=
  if a = (nb f (a / b)).1 * b then (nb f (a / b)).1
  else if goOut f.mode neg (2 * a) (((nb f (a / b)).1 + (nb f (a / b)).2) * b) ((nb f (a / b)).1 / ((nb f (a / b)).2 - (nb f (a / b)).1)) = true then (nb f (a / b)).2 else (nb f (a / b)).1
/-- does mode hold back to the largest number -/
def hold (f : Form) (neg : Bool) : Bool := !f.inf || f.mode == .zero || f.mode == (if neg then Mode.up else Mode.down)
def bnd (f : Form) (neg : Bool) (m : Nat) : Res :=
  if topN f < m then (if hold f neg then .fin (if neg then -(topN f : Int) else topN f) else if neg then .ninf else .pinf) else .fin (if neg then -(m : Int) else m)
/-- the fraction t / b, in units, rounded -/
def rnd (f : Form) (t : Int) (b : Nat) : Res := bnd f (decide (t < 0)) (mag f (decide (t < 0)) t.natAbs b)
theorem dec_tiny (g : Bool) : decide (tinyS g = ("gradual" : Str)) = g := by cases g <;> decide +kernel
theorem dec_largest (b : Bool) : decide (hugeS b = ("largest" : Str)) = !b := by cases b <;> decide +kernel
theorem dec_mode (m n : Mode) : decide (m.s = n.s) = decide (m = n) := by cases m <;> cases n <;> decide +kernel
theorem two_pow_pos (n : Nat) : (0 : Int) < 2 ^ n := Int.pow_pos (by decide)
end Fx
set_option Elab.async false
set_option linter.all false
set_option maxRecDepth 100000
namespace Fx
open PySem
end Fx
set_option Elab.async false
set_option linter.all false
set_option maxRecDepth 100000
namespace Fx
open PySem
theorem topN_lt {f : Form} (ok : f.Ok) : topN f < 2 ^ 30 := by
  have h1 := Nat.pow_le_pow_right (n := 2) (by decide) ok.p10
  have h2 := Nat.pow_le_pow_right (n := 2) (by decide) ok.e20
  have h3 : topN f ≤ (2 ^ 10 - 1) * 2 ^ 20 := Nat.mul_le_mul (by omega) h2
  exact Nat.lt_of_le_of_lt h3 (by decide)
end Fx
set_option Elab.async false
set_option linter.all false
set_option maxRecDepth 100000
namespace Fx
open PySem
/-- an integer within limits -/
def within (d : PyData) (l g : Int) : Bool := match d with
  | .int i => decide (l ≤ i) && decide (i ≤ g)
  | _ => false
/-- a fraction times a power of two, in units -/
def rndV (f : Form) (t : Int) (b : Nat) (s : Int) : Res := if s < 0 then rnd f t (b * 2 ^ (-s).toNat) else rnd f (t * 2 ^ s.toNat) b
end Fx
set_option Elab.async false
set_option linter.all false
set_option maxRecDepth 100000
set_option exponentiation.threshold 5000
namespace Fx
open PySem
theorem nrm_le_top {f : Form} (ok : f.Ok) : nrmN f ≤ topN f := by
  unfold nrmN topN
  have p4 := ok.p4
  have e : 2 ^ f.p = 2 * 2 ^ (f.p - 1) := by
    rw [← Nat.pow_succ']; congr 1; omega
  have h2 : 0 < 2 ^ (f.p - 1) := Nat.two_pow_pos _
  have h3 : 2 ^ (f.p - 1) ≤ 2 ^ f.p - 1 := by omega
  exact Nat.le_trans h3 (Nat.le_mul_of_pos_right _ (Nat.two_pow_pos _))
theorem isNum_le {f : Form} (ok : f.Ok) {u : Int} (h : isNum f u = true) : u.natAbs ≤ topN f := by
  unfold isNum numN at h
  split at h
  · have := nrm_le_top ok
    omega
  · simp only [Bool.and_eq_true, decide_eq_true_eq] at h
    exact h.1
theorem isNum_lt {f : Form} (ok : f.Ok) {u : Int} (h : isNum f u = true) : u.natAbs < 2 ^ 30 := Nat.lt_of_le_of_lt (isNum_le ok h) (topN_lt ok)
theorem pow_mono {a b : Nat} {n : Nat} (h : n < 2 ^ a) (hab : a ≤ b) : n < 2 ^ b := Nat.lt_of_lt_of_le h (Nat.pow_le_pow_right (by decide) hab)
end Fx
set_option Elab.async false
set_option linter.all false
set_option maxRecDepth 100000
set_option exponentiation.threshold 5000
namespace Fx
open PySem Dl
def fmtB : PyData → Bool
  | .tuple [p, .int low, high, mode, tiny, huge] => within p 4 10 && (within (.int low) (-40) 40 && (within high low (min (low + 20) 40) && (inF mode [.str ("even" : Str), .str ("away" : Str), .str ("down" : Str), .str ("up" : Str), .str ("zero" : Str)] && (inF tiny [.str ("gradual" : Str), .str ("flush" : Str)] && inF huge [.str ("infinite" : Str), .str ("largest" : Str)]))))
  | _ => false
/-- of six items the last three are plain -/
def fmtPre : PyData → Prop
  | .tuple [_, _, _, mode, tiny, huge] => scD mode = true ∧ scD tiny = true ∧ scD huge = true
  | _ => True
def dyB : PyData → Bool
  | .tuple [.int n, k] => within (.int n) (-(10 ^ 40)) (10 ^ 40) && (within k (-400) 400 && (decide (n % 2 = 1) || (decide (n = 0) && (match k with | .int k => decide (k = 0) | _ => false))))
  | _ => false
theorem fmtB_enc {f : Form} (ok : f.Ok) : fmtB (encF f) = true ∧ fmtPre (encF f) := by
  refine ⟨?_, rfl, rfl, rfl⟩
  have p4 := ok.p4
  have p10 := ok.p10
  have lo := ok.lo
  have hi := ok.hi
  have e20 := ok.e20
  have h1 : inF (.str f.mode.s) [.str ("even" : Str), .str ("away" : Str), .str ("down" : Str), .str ("up" : Str), .str ("zero" : Str)] = true := by cases f.mode <;> decide +kernel
  have h2 : inF (.str (tinyS f.g)) [.str ("gradual" : Str), .str ("flush" : Str)] = true := by cases f.g <;> decide +kernel
  have h3 : inF (.str (hugeS f.inf)) [.str ("infinite" : Str), .str ("largest" : Str)] = true := by cases f.inf <;> decide +kernel
  show (within (.int f.p) 4 10 && _) = true
  simp only [within, h1, h2, h3, Bool.and_true, Bool.and_eq_true, decide_eq_true_eq]
  omega
end Fx
set_option Elab.async false
set_option linter.all false
set_option maxRecDepth 100000
set_option exponentiation.threshold 5000
namespace Fx
open PySem Dl
end Fx
set_option Elab.async false
set_option linter.all false
set_option maxRecDepth 100000
set_option exponentiation.threshold 5000
namespace Fx
open PySem Dl
end Fx
set_option Elab.async false
set_option linter.all false
set_option maxRecDepth 100000
set_option exponentiation.threshold 5000
namespace Fx
open PySem Dl
/-- with the low exponent left out: what the small formats' lists depend on -/
def small (p e : Nat) (g : Bool) : Form := ⟨p, 0, e, .up, g, true⟩
end Fx
set_option Elab.async false
set_option linter.all false
set_option maxRecDepth 100000
set_option exponentiation.threshold 5000
/-! Fx: the theory of the rounding: identity on numbers, monotone, results are numbers -/
namespace Fx
open PySem Dl
end Fx
set_option Elab.async false
set_option linter.all false
set_option maxRecDepth 100000
set_option maxHeartbeats 4000000
set_option exponentiation.threshold 5000
/-! Fx: results as data and as tests; the fourteen rules -/
namespace Fx
open PySem PySem.Spec PyProof.Rows L2 Dl
/-! ### the rules -/
def Res.bind (r : Res) (k : Int → Res) : Res := match r with | .fin u => k u | .pinf => .pinf | .ninf => .ninf
def Res.good (r : Res) (k : Int → Bool) : Bool := match r with | .fin u => k u | _ => false
def opp : Res → Res
  | .fin u => .fin (-u)
  | .pinf => .ninf
  | .ninf => .pinf
inductive Rule where
  | sumSign | zeroDiff | closeDiff | errTerm | fastErr | symm | midp | aver | addBack | group | absorb | third | halves | squares
  deriving DecidableEq
def Rule.s : Rule → Str
  | .sumSign => "sum sign" | .zeroDiff => "zero difference" | .closeDiff => "close difference" | .errTerm => "error term" | .fastErr => "fast error" | .symm => "symmetry" | .midp => "midpoint" | .aver => "average"
  | .addBack => "add back" | .group => "grouping" | .absorb => "absorption" | .third => "third" | .halves => "halves" | .squares => "squares"
def Rule.all : List Rule := [.sumSign, .zeroDiff, .closeDiff, .errTerm, .fastErr, .symm, .midp, .aver, .addBack, .group, .absorb, .third, .halves, .squares]
theorem dec_rule (r q : Rule) : decide (r.s = q.s) = decide (r = q) := by cases r <;> cases q <;> decide +kernel
theorem Rule.mem (r : Rule) : r ∈ Rule.all := by cases r <;> decide
/-- does a rule hold for numbers, in units -/
def fits2 (f : Form) (r : Rule) (x y : Int) : Bool := match r with
  | .sumSign => decide (y ≤ x) || !decide (rnd f (y - x) 1 = .fin 0)
  | .zeroDiff => !decide (rnd f (x - y) 1 = .fin 0) || decide (x = y)
  | .closeDiff => (decide (x ≤ 0) || (decide (y ≤ 0) || (decide (2 * y < x) || decide (2 * x < y)))) || decide (rnd f (x - y) 1 = .fin (x - y))
  | .errTerm => (rnd f (x + y) 1).good fun s => isNum f (x + y - s)
  | .fastErr => decide (x.natAbs < y.natAbs) || (rnd f (x + y) 1).good fun s => ((rnd f (s - x) 1).bind fun t => rnd f (y - t) 1).good fun e => decide (s + e = x + y)
  | .symm => decide (opp (rnd f (x + y) 1) = rnd f (-x + -y) 1)
  | .midp => !(decide (0 ≤ x) && decide (x ≤ y)) || ((rnd f (y - x) 1).bind fun d => (rnd f d 2).bind fun h => rnd f (x + h) 1).good fun m => decide (x ≤ m) && decide (m ≤ y)
  | .aver => (!(decide (0 ≤ x) && decide (x ≤ y)) || decide (top f < x + y)) || ((rnd f (x + y) 1).bind fun s => rnd f s 2).good fun m => decide (x ≤ m) && decide (m ≤ y)
  | .addBack => !(decide (0 ≤ y) && decide (y ≤ x)) || decide (((rnd f (x - y) 1).bind fun d => rnd f (d + y) 1) = .fin x)
  | .absorb => !decide (rnd f (x + y) 1 = .fin x) || decide (y = 0)
  | _ => false
def fits3 (f : Form) (x y z : Int) : Bool := (decide (min (min x y) z < 0) || decide (top f < x + y + z)) || ((rnd f (x + y) 1).bind fun a => rnd f (a + z) 1).good fun l => decide (((rnd f (y + z) 1).bind fun b => rnd f (x + b) 1) = .fin l)
def fits1 (f : Form) (r : Rule) (x : Int) : Bool := match r with
  | .third => (decide (x < 0) || decide (top f < 3 * x)) || decide (((rnd f (3 * x) 1).bind fun t => rnd f t 3) = .fin x)
  | .halves => decide (((rnd f x 2).bind fun h => rnd f (h + h) 1) = .fin x)
  | .squares => !decide (rndV f (x * x) 1 f.low = .fin 0) || decide (x = 0)
  | _ => false
def fits (f : Form) (r : Rule) : List Int → Bool
  | [x] => fits1 f r x
  | [x, y] => fits2 f r x y
  | [x, y, z] => fits3 f x y z
  | _ => false
/-! ### a result, or none -/
theorem sm {f : Form} (ok : f.Ok) {u : Int} (h : isNum f u = true) : u.natAbs < 2 ^ 1000 := pow_mono (isNum_lt ok h) (by decide)
/-! ### the law's own arithmetic: a result, or none -/
end Fx
namespace Dl
open PySem PySem.Spec PyProof.Rows L2
section
variable {F : Fm} {X : Cx} {δ : DE} {R R' : Out} {sts rest body orelse : List Stmt} {pos : Pos}
theorem VS.mono (h : VS F X sts δ R) (h1 : ∀ d, R.nx d → R'.nx d) (h2 : ∀ d, R.rt d → R'.rt d) (h3 : ∀ d, R.bk d → R'.bk d) (h4 : ∀ d, R.ct d → R'.ct d) : VS F X sts δ R' := fun σ H D o s q =>
  h σ H D o s ⟨fun σ' H' δ' e o s k => q.nx σ' H' δ' e o s (h1 _ k), fun σ' H' δ' e o s k => q.bk σ' H' δ' e o s (h3 _ k), fun σ' H' δ' e o s k => q.ct σ' H' δ' e o s (h4 _ k), fun v H' d e o n k => q.rt v H' d e o n (h2 _ k)⟩
end
end Dl
set_option Elab.async false
set_option linter.all false
set_option maxRecDepth 100000
set_option maxHeartbeats 4000000
/-! Tk: sets whose members are tuples of texts -/
namespace Tk
open PySem PySem.Spec PyProof.Rows L2
/-- a member: where it lies, its texts -/
abbrev Mb := Addr × List Str
def hv (P : Program) (w : World) (k : List Str) : Int := tupleKeyHash (strKind P w) k
def en (P : Program) (w : World) (m : Mb) : Int × Value := (hv P w m.2, .ref m.1)
def Ly (P : Program) (w : World) (h : Heap) (m : Mb) : Prop := IsTupleKey (strKind P w) h m.2 m.1
/-- the c-th look of a search for a hash -/
def lk (m : Nat) (h : Int) (c : Nat) : SetTable.Probe := nth m (runAt m (SetTable.bits h % (m + 1)) (SetTable.bits h)) c
theorem lk_add (m : Nat) (h : Int) (c q : Nat) : nth m (lk m h c) q = lk m h (c + q) := (nth_add m c _ q).symm
theorem lk_clean (m : Nat) (h : Int) (c : Nat) : (lk m h c).dummy = none := by
  suffices g : ∀ (n : Nat) (p : SetTable.Probe), p.dummy = none → (nth m p n).dummy = none from g c _ rfl
  intro n
  induction n with
  | zero => exact fun p e => e
  | succ n ih => exact fun p e => ih _ (by unfold adv; split <;> exact e)
section
variable {P : Program} {w : World} {A : Around} {E : Value → Shared → Prop} {s : Shared} {m : Mb}
theorem all_txt {k : List Str} {us : List Value} (h : ItemsAre (strKind P w) k us) : ∀ u ∈ us, ∃ x t, u = Value.str x t := by
  induction h with
  | nil => exact fun u hu => nomatch hu
  | cons h1 _ ih =>
    intro u hu
    cases hu with
    | head => obtain ⟨t, e⟩ := Value.isStrOf_shape h1; exact ⟨_, t, e⟩
    | tail _ hu => exact ih u hu
theorem txt_plain (n : Nat) (x : Str) (t : Tok) : ofAClassStatement n (.str x t) = pure false ∧ hashByValue n (.str x t) = pure false := by cases n <;> exact ⟨rfl, rfl⟩
theorem Ly.stay {h h' : Heap} (x : Ly P w h m) (k : ∀ o, h.get? m.1 = some o → h'.get? m.1 = some o) : Ly P w h' m := let ⟨o, us, n, a, r⟩ := x; ⟨o, us, n, k o a, r⟩
theorem Ly.by {h h' : Heap} {D : Addr} {o : Obj} {rs : Array (Int × Value)} {n : Nat} {t : SetTable} (x : Ly P w h m) (ho : h.get? D = some o) (hd : o.data = .set rs n t) (b : Heap.SameBut D h h') : Ly P w h' m := by
  obtain ⟨u, us, z, a, c, d, i⟩ := x
  have ne : m.1 ≠ D := fun e => by rw [e, ho] at a; cases a; rw [hd] at d; cases d
  exact ⟨u, us, z, (b.2 _ ne).trans a, c, d, i⟩
theorem hash_any {Q : Bool → Shared → Prop} (x : Ly P w s.heap m) (q : ∀ b, Q b s) : wpAny (model P w) A (hashByValue 8 (.ref m.1)) Q E s := by
  have ty := x.typeIs
  obtain ⟨o, us, n, ho, hc, hd, hu⟩ := x
  have hu := all_txt hu
  unfold hashByValue
  refine wpAny_bind (wpAny_specialOf ty F.slot_tuple_hash.lookup (wpAny_bind (wpAny_seqItems ho hd (wpAny_bind ?_))))
  show wpAny _ _ (forIn us _ _) _ _ s
  rw [← Array.forIn_toList]
  refine wpAny_forIn_list _ (fun l r z => r.1 = none ∧ z = s ∧ ∀ u ∈ l, ∃ x t, u = Value.str x t) _ (fun u l r z g => ?_) (fun r z g => ?_) _ _ ⟨rfl, rfl, hu⟩
  · obtain ⟨g1, g2, g3⟩ := g
    obtain ⟨y, t, e⟩ := g3 u (.head _)
    subst e g2
    rw [(txt_plain _ y t).2]
    refine wpAny_bind (wpAny_pure ?_)
    simp only [Bool.not_false, if_true]
    exact wpAny_pure (wpAny_pure (q false))
  · obtain ⟨a, ⟨⟩⟩ := r
    obtain ⟨g1, g2, _⟩ := g
    cases g1
    subst g2
    exact wpAny_pure (q true)
theorem class_no {Q : Bool → Shared → Prop} (x : Ly P w s.heap m) (q : Q false s) : wpAny (model P w) A (ofAClassStatement 8 (.ref m.1)) Q E s := by
  have ty := x.typeIs
  obtain ⟨o, us, n, ho, hc, hd, hu⟩ := x
  have hu := all_txt hu
  unfold ofAClassStatement
  refine wpAny_bind (wpAny_typeOf ty ?_)
  have yes : (("tuple" : String) == "tuple") = true := by decide
  dsimp only
  simp only [yes, if_true, Bool.not_true, Bool.false_eq_true, if_false]
  try refine wpAny_bind (wpAny_pure ?_)
  try simp only [Bool.not_true, Bool.false_eq_true, if_false]
  show wpAny _ _ (seqItems? (.ref m.1) >>= _) _ _ s
  refine wpAny_bind (wpAny_seqItems ho hd ?_)
  dsimp only
  refine wpAny_bind ?_
  show wpAny _ _ (forIn us _ _) _ _ s
  rw [← Array.forIn_toList]
  refine wpAny_forIn_list _ (fun l r z => r.1 = none ∧ z = s ∧ ∀ u ∈ l, ∃ x t, u = Value.str x t) _ (fun u l r z g => ?_) (fun r z g => ?_) _ _ ⟨rfl, rfl, hu⟩
  · obtain ⟨g1, g2, g3⟩ := g
    obtain ⟨y, t, e⟩ := g3 u (.head _)
    subst e g2
    rw [(txt_plain _ y t).1]
    refine wpAny_bind (wpAny_pure ?_)
    simp only [Bool.false_eq_true, if_false]
    exact wpAny_pure ⟨rfl, rfl, fun y hy => g3 y (.tail _ hy)⟩
  · obtain ⟨a, ⟨⟩⟩ := r
    obtain ⟨g1, g2, _⟩ := g
    cases g1
    subst g2
    exact wpAny_pure q
theorem unseen {ys : List Value} {Q : Bool → Shared → Prop} (x : Ly P w s.heap m) (hy : ∀ y ∈ ys, ∃ m' : Mb, y = Value.ref m'.1 ∧ Ly P w s.heap m') (q : Q false s) : wpAny (model P w) A (searchCouldBeSeen (.ref m.1) ys) Q E s := by
  unfold searchCouldBeSeen
  refine wpAny_bind (wpAny_forIn_list _ (fun l r z => r.1 = none ∧ z = s ∧ ∀ y ∈ l, ∃ m' : Mb, y = Value.ref m'.1 ∧ Ly P w s.heap m') _ (fun u l r z g => ?_) (fun r z g => ?_) _ _ ⟨rfl, rfl, hy⟩)
  · obtain ⟨g1, g2, g3⟩ := g
    obtain ⟨m', e, y⟩ := g3 u (.head _)
    have g4 : ∀ y ∈ l, ∃ m' : Mb, y = Value.ref m'.1 ∧ Ly P w s.heap m' := fun y hy => g3 y (.tail _ hy)
    subst e g2
    dsimp only
    by_cases same : (m.1 == m'.1 || (carriedByValue (.ref m.1) && carriedByValue (.ref m'.1))) = true
    · rw [if_pos same]
      exact wpAny_pure ⟨rfl, rfl, g4⟩
    · rw [if_neg same]
      refine wpAny_bind (wpAny_eqIsQuiet_tuple x ?_)
      simp only [Bool.not_true, Bool.false_eq_true, if_false]
      refine wpAny_bind (wpAny_eqIsQuiet_tuple y ?_)
      simp only [Bool.not_true, Bool.false_eq_true, if_false]
      refine wpAny_bind (class_no x ?_)
      simp only [Bool.false_eq_true, if_false]
      refine wpAny_bind (class_no y ?_)
      simp only [Bool.false_eq_true, if_false]
      exact wpAny_pure ⟨rfl, rfl, g4⟩
  · obtain ⟨a, ⟨⟩⟩ := r
    obtain ⟨g1, g2, _⟩ := g
    cases g1
    subst g2
    exact wpAny_pure q
/-- the set at D has the members M -/
structure Has (P : Program) (w : World) (h : Heap) (D : Addr) (M : List Mb) (rs : Array (Int × Value)) (n : Nat) (t : SetTable) : Prop where
  obj : ∃ o, h.get? D = some o ∧ o.ExactSet ∧ o.data = .set rs n t
  row : rs.toList = M.map (en P w)
  tab : TabOk t (M.map fun m => hv P w m.2)
  one : (M.map (·.2)).Nodup
  mem : ∀ m ∈ M, Ly P w h m
  ord : w.params.followText "set-order" = true ∨ t.led = true
  free : M.length * 5 < t.mask * 3
  less : M.length < 64
variable {D : Addr} {M : List Mb} {rs : Array (Int × Value)} {n : Nat} {t : SetTable}
theorem row_len {M : List Mb} {rs : Array (Int × Value)} (h : rs.toList = M.map (en P w)) : rs.size = M.length := by
  have := congrArg List.length h
  simpa using this
theorem row_at {M : List Mb} {rs : Array (Int × Value)} (h : rs.toList = M.map (en P w)) (i : Nat) : rs[i]? = (M[i]?).map (en P w) := by rw [← Array.getElem?_toList, h, List.getElem?_map]
theorem fits_of {t : SetTable} {k : Nat} (h1 : t.place.size = k) (h2 : t.dummies = #[]) (h3 : k ≤ t.mask) : t.fits k = true := by
  unfold SetTable.fits SetTable.fill
  rw [h2]
  simp only [Bool.and_eq_true, beq_iff_eq, decide_eq_true_eq]
  exact ⟨h1, by rw [h1]; exact h3⟩
theorem Has.fits (R : Has P w s.heap D M rs n t) : t.fits rs.size = true := by
  have := R.free
  refine fits_of ?_ R.tab.dm (by rw [row_len R.row]; omega)
  rw [R.tab.sz, List.length_map, row_len R.row]
/-- behind a place whose hash is the one looked for -/
theorem look_rest (R : Has P w s.heap D M rs n t) (hm : Ly P w s.heap m) (hu : A.units < cLine) {q : Mb} {i j f : Nat} {nx : SetTable.Probe} {Q : SetFound → Shared → Prop} (hi : M[i]? = some q) (hj : t.place.toList[i]? = some j)
    (yes : q.2 = m.2 → Q (.there none) s) (no : q.2 ≠ m.2 → wpAny (model P w) A (setSearchFrom D (.ref m.1) (hv P w m.2) true f (some nx)) Q E s) : wpAny (model P w) A (searchRest D (.ref m.1) (hv P w m.2) true f rs t j i nx) Q E s := by
  obtain ⟨o, o1, o2, o3⟩ := R.obj
  have at_i : rs[i]? = some (en P w q) := by rw [row_at R.row, hi]; rfl
  have live : t.slot j = .live i := slot_live R.tab.ris hj
  unfold searchRest
  rw [at_i]
  unfold en
  dsimp only
  refine wpAny_bind (wpAny_holding (wpAny_eqBool_tuple hu (R.mem q (List.mem_of_getElem? hi)) hm (wpAny_bind (wpAny_setState_of o1 o3 R.fits ?_))))
  dsimp only
  by_cases e : q.2 = m.2
  · rw [if_pos (by simp [e])]
    exact wpAny_pure (yes e)
  · rw [if_neg (by simp [e])]
    try refine wpAny_bind (wpAny_pure ?_)
    rw [sameMem]
    simp only [if_true, live, at_i, en]
    refine wpAny_bind (wpAny_isSame_ref_self (wpAny_bind (wpAny_pure ?_)))
    simp only [if_true]
    rw [if_neg (by simp [e])]
    exact no e
theorem look_from (R : Has P w s.heap D M rs n t) (hm : Ly P w s.heap m) (hu : A.units < cLine) {K : Nat} (K1 : K < 10 * SetTable.turns t.mask) (K2 : way t.mask (hv P w m.2) K ∉ t.place.toList) (K3 : ∀ c, c < K → way t.mask (hv P w m.2) c ∈ t.place.toList) {Q : SetFound → Shared → Prop}
    (yes : m.2 ∈ M.map (·.2) → Q (.there none) s) (no : m.2 ∉ M.map (·.2) → Q (.free (way t.mask (hv P w m.2) K) false) s) : ∀ (f c : Nat) (st : Option SetTable.Probe), st.getD (t.probeStart (hv P w m.2)) = lk t.mask (hv P w m.2) c → c ≤ K → K - c < f →
      (∀ (i : Nat) q, M[i]? = some q → q.2 = m.2 → ∃ c', c ≤ c' ∧ c' < K ∧ t.place.toList[i]? = some (way t.mask (hv P w m.2) c')) → wpAny (model P w) A (setSearchFrom D (.ref m.1) (hv P w m.2) true f st) Q E s := by
  intro f
  induction f with
  | zero => exact fun c st _ _ h => absurd h (Nat.not_lt_zero _)
  | succ f ih =>
    intro c st hst hc hf ahead
    obtain ⟨o, o1, o2, o3⟩ := R.obj
    have gone : ¬ t.gaveWay = true := by
      unfold SetTable.gaveWay
      rw [mask_odd R.tab.mok]
      decide
    have jj : ∀ q, (nth t.mask (lk t.mask (hv P w m.2) c) q).j = way t.mask (hv P w m.2) (c + q) := fun q => by rw [lk_add]; rfl
    have hash_i : ∀ (i : Nat) q, M[i]? = some q → (rs[i]?.map (·.1)).getD 0 = hv P w q.2 := fun i q e => by rw [row_at R.row, e]; rfl
    rw [setSearchFrom_succ]
    refine wpAny_bind (wpAny_setState_of o1 o3 R.fits ?_)
    dsimp only
    rw [if_neg gone]
    try refine wpAny_bind (wpAny_pure ?_)
    have sp := go_spec t R.tab.ris R.tab.dm (fun i => (rs[i]?.map (·.1)).getD 0) (hv P w m.2) (10 * SetTable.turns t.mask) (K - c) (lk t.mask (hv P w m.2) c) (lk_clean ..) (by omega) (fun q h => by rw [jj]; exact K3 _ (by omega)) (by rw [jj, show c + (K - c) = K by omega]; exact K2)
    simp only [jj, lk_add] at sp
    have pr : t.probe (fun i => (rs[i]?.map (·.1)).getD 0) (hv P w m.2) (st.getD (t.probeStart (hv P w m.2))) = SetTable.probe.go t (fun i => (rs[i]?.map (·.1)).getD 0) (hv P w m.2) (10 * SetTable.turns t.mask) (lk t.mask (hv P w m.2) c) := by rw [hst]; rfl
    rw [pr]
    rcases sp with ⟨d, i, s1, s2, s3, s4, s5⟩ | ⟨s4, s5⟩
    · rw [s5]
      dsimp only
      have il : i < M.length := by
        have z := (List.getElem?_eq_some_iff.mp s2).1
        have z2 := R.tab.sz
        rw [Array.length_toList, z2, List.length_map] at z
        exact z
      have hi : M[i]? = some M[i] := List.getElem?_eq_getElem il
      generalize M[i] = q at hi
      have rest : wpAny (model P w) A (searchRest D (.ref m.1) (hv P w m.2) true f rs t (way t.mask (hv P w m.2) (c + d)) i (lk t.mask (hv P w m.2) (c + (d + 1)))) Q E s :=
        look_rest R hm hu hi s2 (fun e => yes (List.mem_map.mpr ⟨q, List.mem_of_getElem? hi, e⟩)) fun ne => ih (c + (d + 1)) _ rfl (by omega) (by omega) fun i' q' h1 h2 => by
          obtain ⟨c', a1, a2, a3⟩ := ahead i' q' h1 h2
          refine ⟨c', ?_, a2, a3⟩
          have h3 : (rs[i']?.map (·.1)).getD 0 = hv P w m.2 := (hash_i i' q' h1).trans (congrArg _ h2)
          rcases Nat.lt_trichotomy c' (c + d) with z | z | z
          · exact absurd h3 (s4 (c' - c) i' (by omega) (by rw [show c + (c' - c) = c' by omega]; exact a3))
          · subst z
            have l1 := slot_live R.tab.ris a3
            have l2 : t.slot (way t.mask (hv P w m.2) (c + d)) = .live i := slot_live R.tab.ris s2
            rw [l2] at l1
            injection l1 with l1
            subst l1
            rw [hi] at h1
            cases h1
            exact absurd h2 ne
          · omega
      cases hl : t.led with
      | true =>
        rw [if_neg (by simp)]
        try refine wpAny_bind (wpAny_pure ?_)
        exact rest
      | false =>
        rw [if_pos (by simp)]
        refine wpAny_bind (unseen hm (fun y hy => ?_) ?_)
        · obtain ⟨e, he, rfl⟩ := List.mem_map.mp hy
          have he1 : e ∈ rs.toList := by
            have : e ∈ rs ∧ e.1 = hv P w m.2 := by simpa using he
            simpa using this.1
          rw [R.row] at he1
          obtain ⟨m', hm', rfl⟩ := List.mem_map.mp he1
          exact ⟨m', rfl, R.mem m' hm'⟩
        · rw [if_neg (by decide)]
          try refine wpAny_bind (wpAny_pure ?_)
          exact rest
    · rw [s5, show c + (K - c) = K by omega]
      refine wpAny_pure (no fun hmem => ?_)
      obtain ⟨q, hq, e⟩ := List.mem_map.mp hmem
      obtain ⟨i, hi⟩ := List.getElem?_of_mem hq
      obtain ⟨c', a1, a2, a3⟩ := ahead i q hi e
      exact s4 (c' - c) i (by omega) (by rw [show c + (c' - c) = c' by omega]; exact a3) ((hash_i i q hi).trans (congrArg _ e))
theorem look (R : Has P w s.heap D M rs n t) (hm : Ly P w s.heap m) (hu : A.units < cLine) {Q : SetFound → Shared → Prop} (yes : m.2 ∈ M.map (·.2) → Q (.there none) s)
    (no : ∀ K, m.2 ∉ M.map (·.2) → way t.mask (hv P w m.2) K ∉ t.place.toList → (∀ c, c < K → way t.mask (hv P w m.2) c ∈ t.place.toList) → Q (.free (way t.mask (hv P w m.2) K) false) s) : wpAny (model P w) A (setSearch D (.ref m.1) (hv P w m.2) true) Q E s := by
  have fr := R.free
  obtain ⟨K, K1, K2, K3⟩ := R.tab.first (by rw [List.length_map]; omega) (hv P w m.2)
  have small : 10 * SetTable.turns t.mask < 100000 := by
    unfold SetTable.turns
    rcases R.tab.mok with e | e | e <;> rw [e] <;> decide
  refine look_from R hm hu K1 K2 K3 yes (fun h => no K h K2 K3) 100000 0 none rfl (Nat.zero_le _) (by omega) fun i q hi e => ?_
  have hi' : (M.map fun m => hv P w m.2)[i]? = some (hv P w m.2) := by rw [List.getElem?_map, hi, ← e]; rfl
  have il : i < t.place.toList.length := by
    have := (List.getElem?_eq_some_iff.mp hi').1
    rw [Array.length_toList, R.tab.sz]
    exact this
  obtain ⟨c, h1, h2⟩ := R.tab.before K2 hi' (List.getElem?_eq_getElem il)
  exact ⟨c, Nat.zero_le _, h1, by rw [h2]; exact List.getElem?_eq_getElem il⟩
/-! ### one more member -/
theorem order_rows {M : List Mb} {rs : Array (Int × Value)} {ord : Array Nat} (h : rs.toList = M.map (en P w)) (p : ord.toList.Perm (List.range M.length)) :
    ∃ M2 : List Mb, (ord.filterMap (rs[·]?)).toList = M2.map (en P w) ∧ M2.Perm M ∧ (M2.map fun m => hv P w m.2) = ord.toList.map fun i => (rs.map (·.1)).getD i 0 := by
  have inn : ∀ i ∈ ord.toList, i < M.length := fun i hi => List.mem_range.mp (p.mem_iff.mp hi)
  refine ⟨ord.toList.filterMap (M[·]?), ?_, ?_, ?_⟩
  · rw [Array.toList_filterMap, List.map_filterMap]
    exact congrArg (fun f => List.filterMap f ord.toList) (funext fun i => row_at h i)
  · have whole : ∀ k, k ≤ M.length → (List.range k).filterMap (M[·]?) = M.take k := by
      intro k
      induction k with
      | zero => exact fun _ => rfl
      | succ k ih =>
        intro hk
        rw [List.range_succ, List.filterMap_append, ih (by omega), List.take_add_one, List.getElem?_eq_getElem hk]
        simp [List.getElem?_eq_getElem (show k < M.length from hk)]
    have e := whole M.length (Nat.le_refl _)
    rw [List.take_length] at e
    have q := p.filterMap (M[·]?)
    rw [e] at q
    exact q
  · have go : ∀ l : List Nat, (∀ i ∈ l, i < M.length) → ((l.filterMap (M[·]?)).map fun m => hv P w m.2) = l.map fun i => (rs.map (·.1)).getD i 0 := by
      intro l
      induction l with
      | nil => exact fun _ => rfl
      | cons i l ih =>
        intro hl
        have hi : i < M.length := hl i (.head _)
        rw [List.filterMap_cons_some (List.getElem?_eq_getElem hi), List.map_cons, List.map_cons, ih fun j hj => hl j (.tail _ hj)]
        congr 1
        have z : (rs.map (·.1))[i]? = some (hv P w M[i].2) := by rw [Array.getElem?_map, row_at h, List.getElem?_eq_getElem hi]; rfl
        rw [Array.getD_eq_getD_getElem?, z]
        rfl
    exact go _ inn
/-- the table laid anew -/
theorem relay {o : Obj} (o1 : s.heap.get? D = some o) (o2 : o.ExactSet) (o3 : o.data = .set rs n t) (row : rs.toList = M.map (en P w)) (psz : t.place.size = rs.size) (dm : t.dummies = #[]) (le : rs.size ≤ t.mask) (one : (M.map (·.2)).Nodup) (mem : ∀ m ∈ M, Ly P w s.heap m)
    (ord : w.params.followText "set-order" = true ∨ t.led = true) (less : M.length < 64) {k B : Nat} (b1 : SetTable.sizeAbove k - 1 = B) (b2 : MaskOk B) (b3 : SetTable.sizeAbove k ≤ 128) (b4 : M.length * 5 < B * 3) {Q : Unit → Shared → Prop}
    (q : ∀ h' M' rs' n' t', Heap.SameBut D s.heap h' → Has P w h' D M' rs' n' t' → M'.Perm M → Q () { s with heap := h' }) : wpAny (model P w) A (setRelay D k) Q E s := by
  have len := row_len row
  obtain ⟨t', od, r1, r2, r3, r4, r5, r6, r7⟩ := relaid_ok t (hs := rs.map (·.1)) (wanted := k) b1 b2 (by rw [Array.size_map, len]; omega)
  rw [Array.size_map, len] at r2
  obtain ⟨M2, m1, m2, m3⟩ := order_rows row r2
  rw [← m3] at r3
  have sz2 : (od.filterMap (rs[·]?)).size = rs.size := (row_len m1).trans (m2.length_eq.trans len.symm)
  rw [setRelay_eq]
  refine wpAny_bind (wpAny_setState_of o1 o3 (fits_of psz dm le) ?_)
  dsimp only
  rw [if_neg (by rw [sizeLine_eq]; omega)]
  try refine wpAny_bind (wpAny_pure ?_)
  rw [r1]
  dsimp only
  refine wpAny_bind ?_
  rw [if_neg (by rw [sz2]; simp)]
  try refine wpAny_bind (wpAny_pure ?_)
  refine wpAny_pure ?_
  dsimp only
  have bt : Heap.SameBut D s.heap (s.heap.update D (Obj.putSet (od.filterMap (rs[·]?)) t')) := Heap.SameBut.update ..
  refine wpAny_storeSet_of o1 o3 (q _ M2 _ (n + 1) t' bt ⟨⟨_, store_at o1 o3, ⟨o2.1, o2.2.1, o2.2.2⟩, rfl⟩, m1, r3, (m2.map (·.2)).nodup_iff.mpr one, fun m hm => (mem m (m2.mem_iff.mp hm)).by o1 o3 bt, by rw [r5]; exact ord, by rw [m2.length_eq, r4]; exact b4, by rw [m2.length_eq]; exact less⟩ m2) (by rw [sz2, len, sizeLine_eq]; omega)
theorem tab_plain {t : SetTable} {l : List Int} (T : TabOk t l) (b : Bool) : TabOk { t with plain := b } l := ⟨T.ris, T.dm, T.sz, T.mok, T.bd, T.reach⟩
def tailS (D : Addr) (rs : Array (Int × Value)) (t : SetTable) (k : Nat) : Sem Bool := do
  storeSet D rs t
  if !false && t.tooFull then
    setRelay D k
    pure true
  else pure true
/-- behind the new place: the store, and the table laid anew where it is too full -/
theorem put_tail {o : Obj} (o1 : s.heap.get? D = some o) (o2 : o.ExactSet) (o3 : o.data = .set rs n t) {M1 : List Mb} {rs1 : Array (Int × Value)} {t1 : SetTable} (pm : M1.Perm (m :: M)) (row : rs1.toList = M1.map (en P w)) (T : TabOk t1 (M1.map fun m => hv P w m.2)) (one : (M1.map (·.2)).Nodup)
    (mem : ∀ m ∈ M1, Ly P w s.heap m) (ord : w.params.followText "set-order" = true ∨ t1.led = true) (mk : t1.mask = t.mask) (fl : t1.fill = M.length + 1) (fr : M.length * 5 < t.mask * 3) (less : M.length + 1 < 64) {Q : Bool → Shared → Prop}
    (q : ∀ h' M' rs' n' t', Heap.SameBut D s.heap h' → Has P w h' D M' rs' n' t' → M'.Perm (m :: M) → Q true { s with heap := h' }) :
    wpAny (model P w) A (tailS D rs1 t1 (SetTable.grown (M.length + 1))) Q E s := by
  have len1 : M1.length = M.length + 1 := pm.length_eq
  have sz1 := row_len row
  have bt : Heap.SameBut D s.heap (s.heap.update D (Obj.putSet rs1 t1)) := Heap.SameBut.update ..
  have o4 := store_at (es' := rs1) (t' := t1) o1 o3
  unfold tailS
  refine wpAny_bind (wpAny_storeSet_of o1 o3 ?_ (by rw [sz1, len1, sizeLine_eq]; omega))
  have mem1 : ∀ m ∈ M1, Ly P w (s.heap.update D (Obj.putSet rs1 t1)) m := fun m hm => (mem m hm).by o1 o3 bt
  generalize s.heap.update D (Obj.putSet rs1 t1) = h1 at bt o4 mem1 ⊢
  have mo := T.mok
  cases full : t1.tooFull with
  | false =>
    have z : ¬ t1.fill * 5 ≥ t1.mask * 3 := by
      have := full
      unfold SetTable.tooFull at this
      exact of_decide_eq_false this
    simp only [Bool.not_false, Bool.and_false, Bool.false_eq_true, if_false]
    try refine wpAny_bind (wpAny_pure ?_)
    exact wpAny_pure (q h1 M1 rs1 (n + 1) t1 bt ⟨⟨_, o4, ⟨o2.1, o2.2.1, o2.2.2⟩, rfl⟩, row, T, one, mem1, ord, by rw [len1]; rw [fl] at z; omega, by rw [len1]; exact less⟩ pm)
  | true =>
    have z : (M.length + 1) * 5 ≥ t1.mask * 3 := by
      have := full
      unfold SetTable.tooFull at this
      rw [fl] at this
      exact of_decide_eq_true this
    simp only [Bool.not_false, Bool.and_self, if_true]
    have psz : t1.place.size = rs1.size := by rw [T.sz, List.length_map, sz1]
    have go : ∀ B, SetTable.sizeAbove (SetTable.grown (M.length + 1)) - 1 = B → MaskOk B → SetTable.sizeAbove (SetTable.grown (M.length + 1)) ≤ 128 → (M.length + 1) * 5 < B * 3 → M.length + 1 ≤ t1.mask →
        wpAny (model P w) A (do setRelay D (SetTable.grown (M.length + 1)); return true) Q E { s with heap := h1 } := fun B b1 b2 b3 b4 b5 =>
      wpAny_bind (relay (s := { s with heap := h1 }) o4 ⟨o2.1, o2.2.1, o2.2.2⟩ rfl row psz T.dm (by rw [sz1, len1]; exact b5) one mem1 ord (by rw [len1]; exact less) b1 b2 b3 (by rw [len1]; exact b4) fun h2 M2 rs2 n2 t2 c1 c2 c3 => wpAny_pure (q h2 M2 rs2 n2 t2 (bt.trans c1) c2 (c3.trans pm)))
    rw [mk] at z mo go
    rcases mo with e | e | e
    · have l4 : M.length = 4 := by omega
      exact go 31 (by rw [l4, size_20]) (.inr (.inl rfl)) (by rw [l4, size_20]; decide) (by omega) (by omega)
    · have l4 : M.length = 18 := by omega
      exact go 127 (by rw [l4, size_76]) (.inr (.inr rfl)) (by rw [l4, size_76]; decide) (by omega) (by omega)
    · omega
theorem put_in (R : Has P w s.heap D M rs n t) (hm : Ly P w s.heap m) (hu : A.units < cLine) (less : m.2 ∉ M.map (·.2) → M.length + 1 < 64) {Q : Bool → Shared → Prop}
    (q : ∀ b h' M' rs' n' t', Heap.SameBut D s.heap h' → Has P w h' D M' rs' n' t' → (m.2 ∈ M.map (·.2) → M' = M) → (m.2 ∉ M.map (·.2) → M'.Perm (m :: M)) → Q b { s with heap := h' }) : wpAny (model P w) A (setAddHashed D (.ref m.1) (hv P w m.2)) Q E s := by
  obtain ⟨o, o1, o2, o3⟩ := R.obj
  unfold setAddHashed
  refine wpAny_holding ?_
  rw [show (100000 : Nat) = 99999 + 1 from rfl, setAddHashedIn_succ]
  refine wpAny_bind (wpAny_setState_of o1 o3 R.fits ?_)
  dsimp only
  rw [if_neg (by simp [byScan, Value.scannable])]
  try refine wpAny_bind (wpAny_pure ?_)
  refine wpAny_bind (look R hm hu (fun y => ?_) fun K no k2 k3 => ?_)
  · dsimp only
    exact wpAny_pure (q false s.heap M rs n t (Heap.SameBut.refl D s.heap) R (fun _ => rfl) fun z => absurd y z)
  · dsimp only
    refine wpAny_bind (wpAny_setState_of o1 o3 R.fits ?_)
    dsimp only
    obtain ⟨p1, p2, p3, p4, p5, p6, p7, p8, p9⟩ := R.tab.put k2 k3
    rw [List.length_map] at p9
    generalize t.put (way t.mask (hv P w m.2) K) = pt at p1 p3 p4 p5 p9 ⊢
    obtain ⟨t1, j⟩ := pt
    dsimp only at p1 p3 p4 p5 p9 ⊢
    subst p1
    generalize SetTable.below t.place (way t.mask (hv P w m.2) K) = j at p2 p3 ⊢
    have pm := put_perm M j m
    have row1 : (SetTable.insertAt rs j (hv P w m.2, Value.ref m.1)).toList = (M.take j ++ m :: M.drop j).map (en P w) := by
      rw [SetTable.toList_insertAt, R.row, List.map_append, List.map_cons, List.map_take, List.map_drop]; rfl
    have e3 : (M.map fun m => hv P w m.2).take j ++ hv P w m.2 :: (M.map fun m => hv P w m.2).drop j = (M.take j ++ m :: M.drop j).map fun m => hv P w m.2 := by
      rw [List.map_append, List.map_cons, List.map_take, List.map_drop]
    rw [e3] at p3
    generalize SetTable.insertAt rs j (hv P w m.2, Value.ref m.1) = rs1 at row1 ⊢
    generalize M.take j ++ m :: M.drop j = M1 at pm row1 p3
    have one1 : (M1.map (·.2)).Nodup := (pm.map (·.2)).nodup_iff.mpr (List.nodup_cons.mpr ⟨no, R.one⟩)
    have mem1 : ∀ m ∈ M1, Ly P w s.heap m := fun x hx => by
      rcases List.mem_cons.mp (pm.mem_iff.mp hx) with e | e
      · rw [e]; exact hm
      · exact R.mem x e
    have tail : ∀ t2 : SetTable, TabOk t2 (M1.map fun m => hv P w m.2) → t2.mask = t.mask → t2.led = t.led → t2.fill = M.length + 1 → wpAny (model P w) A (tailS D rs1 t2 (SetTable.grown (rs.size + 1))) Q E s := fun t2 a b c d => by
      rw [row_len R.row]
      exact put_tail o1 o2 o3 pm row1 a one1 mem1 (by rw [c]; exact R.ord) b d R.free (less no) fun h' M' rs' n' t' x1 x2 x3 => q true h' M' rs' n' t' x1 x2 (fun z => absurd z no) fun _ => x3
    have both : ∀ b : Bool, wpAny (model P w) A (tailS D rs1 (if b = true then t1 else { t1 with plain := false }) (SetTable.grown (rs.size + 1))) Q E s := fun b => by
      cases b with
      | true => exact tail t1 p3 p4 p5 p9
      | false => exact tail { t1 with plain := false } (tab_plain p3 false) p4 p5 p9
    cases t1.plain with
    | true =>
      rw [if_pos rfl]
      exact wpAny_bind (hash_any hm both)
    | false =>
      rw [if_neg Bool.false_ne_true]
      exact wpAny_bind (wpAny_pure (both true))
/-- set.add -/
theorem add_one (R : Has P w s.heap D M rs n t) (hm : Ly P w s.heap m) (hu : A.units + 8 < cLine) (less : m.2 ∉ M.map (·.2) → M.length + 1 < 64) {Q : Value → Shared → Prop}
    (q : ∀ h' M' rs' n' t' k, Heap.SameBut D s.heap h' → Has P w h' D M' rs' n' t' → (m.2 ∈ M.map (·.2) → M' = M) → (m.2 ∉ M.map (·.2) → M'.Perm (m :: M)) → Q .none { s with heap := h', toks := k }) : wpAny (model P w) A (call (.builtin "set.add") [.ref D, .ref m.1]) Q E s := by
  obtain ⟨o, o1, o2, o3⟩ := R.obj
  refine wpAny_call_entry F.slot_set_add ⟨o, o1, o2.1⟩ F.entry_set_add ?_ (F.args_set_add_2 _ _)
  unfold Builtin.«set.add» Builtin.Frozenset.oneOther
  simp only [List.isEmpty_nil, bind_assoc]
  unfold Builtin.Frozenset.addrOf setAdd
  refine wpAny_bind (wpAny_pure ?_)
  try dsimp only
  refine wpAny_bind (wpAny_pure ?_)
  try dsimp only
  refine wpAny_bind (wpAny_holding (wpAny_bind (wpAny_pyHash_tuple (by show A.in1.units < cLine; unfold Around.in1; simp only [Around.units]; omega) hm ?_)))
  refine put_in (s := { s with toks := s.toks + (m.2.length + 1) }) R hm (by show A.units + 1 < cLine; omega) less fun b h' M' rs' n' t' a1 a2 a3 a4 => ?_
  show wpAny _ _ (ret Value.none) _ _ _
  exact wpAny_pure ⟨_, rfl, q h' M' rs' n' t' _ a1 a2 a3 a4⟩
/-! ### sorted -/
def enc (k : List Str) : PyData := .tuple (k.map .str)
def leK (a b : List Str) : Bool := PySem.W.dataLe false enc a b
abbrev Asc (K : List (List Str)) : Prop := K.Pairwise fun a b => leK a b = true
theorem leK_trans (a b c : List Str) (h1 : leK a b = true) (h2 : leK b c = true) : leK a c = true := by
  have e : ∀ x y, leK x y = !PyProof.Rows.lexLt PyProof.Rows.itemOrd (PySem.W.keyToks (enc y)) (PySem.W.keyToks (enc x)) := fun _ _ => rfl
  rw [e, Bool.not_eq_true'] at h1 h2 ⊢
  cases h : PyProof.Rows.lexLt PyProof.Rows.itemOrd (PySem.W.keyToks (enc c)) (PySem.W.keyToks (enc a)) with
  | false => rfl
  | true =>
    rcases lex_negTrans _ (PySem.W.keyToks (enc b)) _ h with z | z
    · rw [z] at h2; cases h2
    · rw [z] at h1; cases h1
theorem leK_total (a b : List Str) : (leK a b || leK b a) = true := by
  have e : ∀ x y, leK x y = !PyProof.Rows.lexLt PyProof.Rows.itemOrd (PySem.W.keyToks (enc y)) (PySem.W.keyToks (enc x)) := fun _ _ => rfl
  rw [e, e]
  cases h1 : PyProof.Rows.lexLt PyProof.Rows.itemOrd (PySem.W.keyToks (enc b)) (PySem.W.keyToks (enc a)) with
  | false => rfl
  | true =>
    cases h2 : PyProof.Rows.lexLt PyProof.Rows.itemOrd (PySem.W.keyToks (enc a)) (PySem.W.keyToks (enc b)) with
    | false => rfl
    | true =>
      have := lex_trans _ _ _ h1 h2
      rw [lex_irrefl] at this
      cases this
theorem alike_txt : ∀ xs ys : List Str, PySem.W.alikeAll (xs.map .str) (ys.map .str) = true
  | [], _ => by simp [PySem.W.alikeAll]
  | _ :: _, [] => by simp [PySem.W.alikeAll]
  | x :: xs, y :: ys => by
    show PySem.W.alikeAll (.str x :: xs.map .str) (.str y :: ys.map .str) = true
    rw [PySem.W.alikeAll, alike_txt xs ys]
    simp [PySem.W.alike]
theorem depth_txt : ∀ xs : List Str, PyData.depthAll (xs.map .str) = 0
  | [] => by simp [PyData.depthAll]
  | x :: xs => by
    show PyData.depthAll (.str x :: xs.map .str) = 0
    rw [PyData.depthAll, depth_txt xs]
    simp [PyData.depth]
theorem reads_txt {h : Heap} : ∀ {k : List Str} {us : List Value}, ItemsAre (strKind P w) k us → ReadsAll h us (k.map .str) []
  | _, _, .nil => .nil
  | _, _, .cons h1 h2 => by
    obtain ⟨t, rfl⟩ := Value.isStrOf_shape h1
    exact ReadsAll.cons (as := []) (bs := []) (.str _ t) (reads_txt h2)
theorem Ly.reads {h : Heap} (x : Ly P w h m) : Reads h (.ref m.1) (enc m.2) [] := by
  obtain ⟨o, us, n, ho, hc, hd, hu⟩ := x
  exact .tuple ho hc hd (reads_txt hu)
theorem eachIs_map {β : Type} (f : β → Value) : ∀ {vs : List Value} {bs : List β}, PySem.W.EachIs (fun v b => v = f b) vs bs → vs = bs.map f
  | _, _, .nil => rfl
  | _, _, .cons h1 h2 => by rw [h1, eachIs_map f h2]; rfl
theorem map_eachIs {β : Type} {R : Value → β → Prop} (f : β → Value) : ∀ {bs : List β}, (∀ b ∈ bs, R (f b) b) → PySem.W.EachIs R (bs.map f) bs
  | [], _ => .nil
  | b :: bs, h => .cons (h b (.head _)) (map_eachIs f fun x hx => h x (.tail _ hx))
theorem sorted_of (R : Has P w s.heap D M rs n t) (hh : A.handled = none) (hu : A.units + 16 < cLine) (ne : ∀ m ∈ M, m.2 ≠ []) {Q : Value → Shared → Prop}
    (q : ∀ s' p (out : List Value) (c : Nat) (M' : List Mb), (∀ b o, s.heap.get? b = some o → s'.heap.get? b = some o) → s'.gens = s.gens → s'.os = s.os → s.heap.objs.size ≤ p → s'.heap.get? p = some (seqObj "list" out.toArray c) → out = M'.map (fun m => Value.ref m.1) → M'.Perm M → Asc (M'.map (·.2)) → Q (.ref p) s') :
    wpAny (model P w) A (call (.builtin "sorted") [.ref D]) Q E s := by
  obtain ⟨o, o1, o2, o3⟩ := R.obj
  have len := row_len R.row
  have less := R.less
  refine Calls.call_function_entry kind_sorted plain_sorted entry_sorted (args_sorted1 _) ?_
  unfold Builtin.«sorted»
  refine wpAny_bind (m := checkCount "sorted" 1 1 _) (wpAny_pure (wpAny_bind (collect_set (A := A.in1) hh ⟨o, o1, o2.1, o3⟩ R.fits (by unfold scanBound; omega) R.tab.ris R.ord fun s1 vs k1 k2 k3 k4 pm => ?_)))
  have e1 : rs.toList.map (·.2) = M.map fun m => Value.ref m.1 := by rw [R.row, List.map_map]; rfl
  rw [e1] at pm
  obtain ⟨M1, m1, m2⟩ := perm_lift (fun m : Mb => Value.ref m.1) pm M rfl
  subst m2
  have l1 : M1.length = M.length := m1.length_eq
  refine wpAny_bind (wpAny_newList ?_ (by rw [List.length_map, l1, sizeLine_eq]; omega))
  have hL : (s1.heap.push (seqObj "list" (M1.map fun m => Value.ref m.1).toArray 0)).get? s1.heap.objs.size = some (seqObj "list" (M1.map fun m => Value.ref m.1).toArray 0) := Heap.get?_push_size _ rfl
  have kk : ∀ b u, s.heap.get? b = some u → (s1.heap.push (seqObj "list" (M1.map fun m => Value.ref m.1).toArray 0)).get? b = some u := fun b u e => Heap.get?_push_of_some _ (k1 b u e)
  refine wpAny_bind (wpAny_holding (PySem.W.list_sort_data (s := { s1 with heap := s1.heap.push (seqObj "list" (M1.map fun m => Value.ref m.1).toArray 0) }) (enc := fun m : Mb => enc m.2) (bs := M1) (R := fun v m => v = Value.ref m.1) hL
    (map_eachIs _ fun b hb => rfl) (map_eachIs _ fun b hb => ⟨[], ((R.mem b (m1.mem_iff.mp hb)).stay fun o e => kk _ o e).reads, by simp⟩) (PySem.W.AllAlike.of fun b b' => ?_) (.inl fun d hd => ?_) (by rw [l1, sizeLine_eq]; omega) (fun b hb => ?_) fun out z1 z2 => ?_))
  · show PySem.W.alike (.tuple _) (.tuple _) = true
    rw [PySem.W.alike]
    exact alike_txt _ _
  · obtain ⟨b, hb, rfl⟩ := List.mem_map.mp hd
    have := ne b (m1.mem_iff.mp hb)
    cases e : b.2 with
    | nil => exact absurd e this
    | cons x r => exact ⟨.str x, r.map .str, by unfold enc; rfl⟩
  · show A.in1.units + 1 + (PyData.tuple (b.2.map .str)).depth < cLine
    have e : (PyData.tuple (b.2.map .str)).depth = PyData.depthAll (b.2.map .str) + 1 := by rw [PyData.depth]
    rw [e, depth_txt]
    show A.units + 1 + 1 + (0 + 1) < cLine
    omega
  · have z3 := eachIs_map _ z2
    obtain ⟨c, hc⟩ := sortedHeap_at (vs := M1.map fun m => Value.ref m.1) (out := out.toArray) hL
    refine wpAny_pure ⟨_, rfl, q _ s1.heap.objs.size out c _ (fun b u e => ?_) k3 k4 k2 hc z3 ((List.mergeSort_perm _ _).trans m1) ?_⟩
    · have lt := Heap.lt_size (k1 b u e)
      show (sortedHeap (s1.heap.push _) s1.heap.objs.size _ out.toArray).get? b = some u
      rw [sortedHeap_old (Nat.ne_of_lt lt) (by rw [size_push']; exact Nat.lt_succ_of_lt lt)]
      exact kk b u e
    · refine List.pairwise_map.mpr ?_
      exact List.pairwise_mergeSort (le := fun a b : Mb => leK a.2 b.2) (fun a b c => leK_trans _ _ _) (fun a b => leK_total _ _) M1
end
/-! ### as tracked things -/
/-- the set at D, its members' own objects aside -/
def St0 (P : Program) (w : World) (h : Heap) (D : Addr) (M : List Mb) : Prop := ∃ (rs : Array (Int × Value)) (n : Nat) (t : SetTable), (∃ o, h.get? D = some o ∧ o.ExactSet ∧ o.data = .set rs n t) ∧ rs.toList = M.map (en P w) ∧ TabOk t (M.map fun m => hv P w m.2) ∧ (M.map (·.2)).Nodup ∧
  (w.params.followText "set-order" = true ∨ t.led = true) ∧ M.length * 5 < t.mask * 3 ∧ M.length < 64
def SetK (P : Program) (w : World) (D : Addr) (M : List Mb) : HO := .ext fun h => St0 P w h D M
theorem Has.st {P : Program} {w : World} {h : Heap} {D : Addr} {M : List Mb} {rs : Array (Int × Value)} {n : Nat} {t : SetTable} (R : Has P w h D M rs n t) : St0 P w h D M := ⟨rs, n, t, R.obj, R.row, R.tab, R.one, R.ord, R.free, R.less⟩
theorem St0.has {P : Program} {w : World} {h : Heap} {D : Addr} {M : List Mb} (R : St0 P w h D M) (mem : ∀ m ∈ M, Ly P w h m) : ∃ rs n t, Has P w h D M rs n t := by
  obtain ⟨rs, n, t, a, b, c, d, e, f, g⟩ := R
  exact ⟨rs, n, t, a, b, c, d, mem, e, f, g⟩
theorem setK_new {P : Program} {w : World} {H : Hp} {h : Heap} {D : Addr} {M : List Mb} (R : St0 P w h D M) : ObjOk P w H h D (SetK P w D M) := by
  have ⟨rs, n, t, ⟨o, ho, z⟩, b⟩ := id R
  refine ⟨R, ⟨o, ho⟩, fun h1 h2 p k => ?_⟩
  have ⟨rs', n', t', ⟨o', ho', z'⟩, b'⟩ := p
  exact ⟨rs', n', t', ⟨o', k o' ho', z'⟩, b'⟩
theorem st_fresh {P : Program} {w : World} {h : Heap} : St0 P w (h.push { cls := .type "set", dict := none, data := .set #[] 0 (.fresh 0 0 (!w.params.followText "set-order")) }) h.objs.size [] :=
  ⟨#[], 0, _, ⟨_, Heap.get?_push_size _ rfl, ⟨rfl, rfl, rfl⟩, rfl⟩, rfl, ⟨List.Pairwise.nil, rfl, rfl, .inl rfl, fun x hx => (by cases hx), fun i h j hi => (by simp at hi)⟩, List.nodup_nil, by
    cases e : w.params.followText "set-order" with
    | true => exact .inl rfl
    | false => exact .inr (rfl), by show 0 * 5 < 7 * 3; decide, by show 0 < 64; decide⟩
theorem items_txt {P : Program} {w : World} : ∀ {k : List Str} {us : List Value}, Vals (k.map V.str) us → ItemsAre (strKind P w) k us
  | [], _, .nil => .nil
  | x :: k, _, .cons r t => by
    obtain ⟨tk, rfl⟩ := r
    exact .cons (by show Value.isStrOf x (.str x tk) = true; simp [Value.isStrOf]) (items_txt t)
section
variable {X : Cx}
theorem ly_of {pins : List (Addr × Obj)} {σ : L2.St} {H : Hp} {s : Shared} {m : Mb} (I : Inv X pins σ H s) (h : SqT X.K H m.1 (m.2.map V.str)) : Ly X.prog X.w s.heap m := by
  obtain ⟨us, r, ⟨o, ho, hc, n, hd⟩, _⟩ := I.tuple h
  exact ⟨o, us.toArray, n, ho, hc, hd, by simpa using items_txt r⟩
/-- set.add of a tuple of texts -/
theorem addK_ok {pins : List (Addr × Obj)} {σ : L2.St} {H : Hp} {s : Shared} {E : Value → Shared → Prop} {D : Addr} {M : List Mb} {m : Mb} {Q : Value → Shared → Prop} (I : Inv X pins σ H s) (hD : H D = some (SetK X.prog X.w D M)) (hm : SqT X.K H m.1 (m.2.map V.str)) (hM : ∀ m ∈ M, SqT X.K H m.1 (m.2.map V.str))
    (hu : X.A.units + 8 < cLine) (less : m.2 ∉ M.map (·.2) → M.length + 1 < 64)
    (h : ∀ s' M', Inv X pins σ (upd H D (SetK X.prog X.w D M')) s' → (m.2 ∈ M.map (·.2) → M' = M) → (m.2 ∉ M.map (·.2) → M'.Perm (m :: M)) → Q .none s') : wpAny (model X.prog X.w) X.A (call (.builtin "set.add") [.ref D, .ref m.1]) Q E s := by
  have R0 : St0 X.prog X.w s.heap D M := (I.hok D _ hD).1
  obtain ⟨rs, n, t, R⟩ := R0.has fun x hx => ly_of I (hM x hx)
  refine add_one R (ly_of I hm) hu less fun h' M' rs' n' t' k sb R' y1 y2 => h _ M' (I.write (e := D) (t' := k) (by rw [hD]; trivial) (.inl rfl) (fun b u hb hu => (sb.2 b hb).trans hu) (let ⟨o, ho, _⟩ := R'.obj; ⟨o, ho⟩) (setK_new R'.st)) y1 y2
def rSortK (K : PySem.W.Frag) (P : Program) (w : World) : List V → Hp → VK → Prop := fun vs H Q => ∃ (D : Addr) (M : List Mb), vs = [V.ref D] ∧ H D = some (SetK P w D M) ∧ (∀ m ∈ M, SqT K H m.1 (m.2.map V.str)) ∧ (∀ m ∈ M, m.2 ≠ []) ∧
  ∀ (M' : List Mb) (p : Addr), M'.Perm M → (M'.map (·.2)).Nodup → M'.length < 64 → Asc (M'.map (·.2)) → H p = none → Q (.ref p) (upd H p (.lst (M'.map fun m => V.ref m.1)))
theorem refs_vals : ∀ (M : List Mb), Vals (M.map fun m => V.ref m.1) (M.map fun m => Value.ref m.1)
  | [] => .nil
  | _ :: M => .cons rfl (refs_vals M)
theorem cr_sortK (hc : X.calm = true) (hu : X.A.units + 64 < cLine) : CallR X (.builtin "sorted") (rSortK X.K X.prog X.w) := by
  intro pins s σ H vs us Q I r h
  obtain ⟨D, M, rfl, hD, hk, ne, q⟩ := h
  have R0 : St0 X.prog X.w s.heap D M := (I.hok D _ hD).1
  obtain ⟨rs, n, t, R⟩ := R0.has fun m hm => ly_of I (hk m hm)
  rw [Vals.ref1 r]
  refine sorted_of R (I.ok.hd hc) (by omega) ne fun s' p out c M' k g o hp hg hout pm pw => ?_
  subst hout
  have less : M'.length < 64 := by rw [pm.length_eq]; exact R.less
  have J : Inv X pins σ (upd H p (.lst (M'.map fun m => V.ref m.1))) { s with heap := s'.heap, gens := s'.gens, drawn := s'.drawn, toks := s'.toks } :=
    I.call (ch := []) (Un.laid k hp (I.hok.fresh hp)) (I.hok.laid k hp ⟨by rw [List.length_map, sizeLine_eq]; omega, _, c, refs_vals M', hg⟩) (by rw [g]; exact I.bare) (fun _ z => nomatch z)
  have e : s' = { s with heap := s'.heap, gens := s'.gens, drawn := s'.drawn, toks := s'.toks } := by
    obtain ⟨a, b, c, d, e⟩ := s'
    obtain ⟨a', b', c', d', e'⟩ := s
    cases o
    rfl
  rw [e]
  exact ⟨.ref p, _, J, rfl, q M' p pm ((pm.map (·.2)).nodup_iff.mpr R.one) less pw (I.hok.fresh hp)⟩
end
end Tk
set_option Elab.async false
set_option linter.all false
set_option maxRecDepth 100000
set_option maxHeartbeats 4000000
set_option exponentiation.threshold 5000
namespace Dl
open PySem PySem.Spec PyProof.Rows L2
end Dl
set_option Elab.async false
set_option linter.all false
set_option maxRecDepth 100000
set_option maxHeartbeats 4000000
namespace Dl
open PySem PySem.Spec PyProof.Rows L2
/-! ### blocks that raise -/
end Dl
set_option Elab.async false
set_option linter.all false
set_option maxRecDepth 100000
set_option maxHeartbeats 4000000
namespace Dl
open PySem PySem.Spec PyProof.Rows L2 LamX
end Dl
set_option Elab.async false
set_option linter.all false
set_option maxRecDepth 100000
set_option maxHeartbeats 4000000
namespace Dl
open PySem PySem.Spec PyProof.Rows L2 LamX
/-! ### a frame that knows a table of code objects -/
/-! ### a law whose lambdas are made of its own code -/
end Dl
set_option Elab.async false
set_option linter.all false
set_option maxRecDepth 100000
set_option maxHeartbeats 4000000
namespace Dl
open PySem PySem.Spec PyProof.Rows L2 LamX
/-! ### the end of a law whose lambdas are made of its own code -/
/-! ### lambda: f(a, b, ..) of names that hold data, f one that raises -/
end Dl
set_option Elab.async false
set_option linter.all false
set_option maxRecDepth 100000
set_option maxHeartbeats 4000000
set_option exponentiation.threshold 5000
/-! Fx: in which formats the rules hold; the numbers that break the others -/
namespace Fx
open PySem PySem.Spec PyProof.Rows L2 Dl
theorem md_eq (m n : Mode) : decide (m.s = n.s) = (m == n) := by rw [dec_mode]; cases m <;> cases n <;> rfl
def Mode.near (m : Mode) : Bool := m == .even || m == .away
/-- does the rule hold for all numbers -/
def holdsM (f : Form) : Rule → Bool
  | .sumSign => f.g || f.mode == .up
  | .zeroDiff => f.g
  | .closeDiff => f.g
  | .errTerm => f.g && (!f.inf || f.mode == .zero) && (f.mode.near || decide (f.e ≤ f.p))
  | .fastErr => f.g && (!f.inf || f.mode == .zero) && (f.mode.near || decide (f.e ≤ f.p))
  | .symm => (f.mode == .even || f.mode == .away || f.mode == .zero) || (f.g && !f.inf && decide (f.e = 0))
  | .midp => f.g || (f.mode == .even || f.mode == .down || f.mode == .zero)
  | .aver => true
  | .addBack => f.g && decide (f.e = 0)
  | .group => decide (f.e = 0)
  | .absorb => f.mode.near && f.inf && decide (f.e ≤ if f.g then 0 else f.p - 1)
  | .third => decide (f.e ≤ if f.mode.near then 1 else 0)
  | .halves => false
  | .squares => f.mode == .up || decide ((if f.mode == .away then (-1 : Int) else 0) ≤ if f.g then f.low else f.low + f.p - 1)
set_option maxHeartbeats 0
set_option maxHeartbeats 4000000
end Fx
set_option Elab.async false
set_option linter.all false
set_option maxRecDepth 100000
set_option maxHeartbeats 4000000
set_option exponentiation.threshold 5000
namespace Fx
open PySem PySem.Spec PyProof.Rows L2 Dl
end Fx
set_option Elab.async false
set_option linter.all false
set_option maxRecDepth 100000
set_option maxHeartbeats 4000000
namespace Dl
open PySem PySem.Spec PyProof.Rows L2 Fx
/-! ### a local name called -/
theorem vd_callL {F : Fm} {X : Cx} {δ : DE} {e : Expr} {es : List Expr} {pos p : Pos} {x : Str} (i : Nat) {A : List PyData → PyData → Prop} {j n : Nat} {xd : Str} {f : Addr} {z : PyData} {ds : List PyData} (G : Df X.prog X.w X.K X.mg X.base xd j (spD X.K A)) (hf : X.mg xd = some (.ref f)) (hr : Room n X.A) (hj : j ≤ n) (ha : VL F X (e :: es) δ ds) (hA : A ds z)
    (hd : δ[i]? = some (some (.raw (.ref f))) := by rfl) (hN : X.N[i]? = some x := by rfl) (hv : Vis X.env.scope x := by first | exact Or.inl rfl | exact Or.inr (Or.inl rfl) | exact Or.inr (Or.inr rfl))
    (hdb : (x == ("__debug__" : Str)) = false := by decide) (hcd : (x == ("__classdict__" : Str)) = false := by decide)
    (he : starEach (e :: es) X.env = (false, eval e X.env) :: starEach es X.env := by rfl) (hpl : (backTo pos (starEach es X.env)).any (·.1) = false := by rfl) : VD F X (.Call (.Name x p) (e :: es) [] pos) δ z := fun σ H Q o s q => by
  obtain ⟨g, fd, ps, G1, G2, G3, G4⟩ := G.ex
  obtain rfl : f = g := by rw [hf] at G2; cases G2; rfl
  refine (pe_callL (i := i) (dvs := []) G1 (hr.mono hj) hN hv G3 G4 .nil passL (pa_sem X (e :: es)) hdb hcd he hpl).sem ?_
  obtain ⟨v, h1, h2⟩ := s.at_ i _ hd
  have h2' : v = .ref f := h2
  subst h2'
  refine ⟨h1, ha σ H _ o s fun vs H1 ds' e1 o1 n1 kd => ?_⟩
  subst kd
  show spD X.K A (vs ++ []) H1 Q E0
  rw [List.append_nil]
  exact ⟨F.S, _, z, o1.2, n1, hA, fun v H' e2 n2 => q v H' z (e1.trans (.of0 e2)) (o1.mono e2) n2 rfl⟩
/-! ### a dict of the body's own, its keys rules -/
theorem rule_inj {q r : Rule} : (Sum.inr q.s : Key) = .inr r.s ↔ q = r := by
  constructor
  · intro h
    have h2 : q.s = r.s := Sum.inr.inj h
    exact of_decide_eq_true ((dec_rule q r).symm.trans (decide_eq_true h2))
  · rintro rfl; rfl
abbrev RL := List (Rule × PyData)
def getR : RL → Rule → Option PyData
  | [], _ => none
  | (q, d) :: l, r => if q = r then some d else getR l r
def KvR (K : PySem.W.Frag) (S : AS) (H : Hp) (kvs : List (Key × V)) (L : RL) : Prop := kvs.length ≤ L.length ∧ ∀ r d, getR L r = some d → ∃ v, valV kvs (.inr r.s) = some v ∧ Dn K S H v d
theorem KvR.put {K : PySem.W.Frag} {S : AS} {H : Hp} {kvs : List (Key × V)} {L : RL} (h : KvR K S H kvs L) {q : Rule} {v : V} {d : PyData} (n : Dn K S H v d) : KvR K S H (putK kvs (.inr q.s) v) ((q, d) :: L) := by
  refine ⟨Nat.le_trans (DSub.putK_len _ _ _) (Nat.succ_le_succ h.1), fun r e hr => ?_⟩
  rw [valV_put]
  unfold getR at hr
  by_cases z : q = r
  · rw [if_pos z] at hr
    cases hr
    rw [if_pos (rule_inj.mpr z.symm)]
    exact ⟨v, rfl, n⟩
  · rw [if_neg z] at hr
    rw [if_neg (fun y => z (rule_inj.mp y).symm)]
    exact h.2 r e hr
theorem KvR.mono {K : PySem.W.Frag} {S : AS} {C : CS} {H H' : Hp} {kvs : List (Key × V)} {L : RL} (h : KvR K S H kvs L) (hC : ∀ a o, C a o → S a ∨ Tb o) (e : Xt C H H') : KvR K S H' kvs L := ⟨h.1, fun r d hr => let ⟨v, h1, h2⟩ := h.2 r d hr; ⟨v, h1, Dn.mono hC e _ _ h2⟩⟩
def Fm.dk (K : PySem.W.Frag) (S : AS) (D : Addr) (L : RL) : Fm := ⟨fun a => S a ∨ a = D, C0, fun H => ∃ kvs, H D = some (.dK kvs) ∧ KvR K (fun a => S a ∨ a = D) H kvs L, fun _ _ z => z.elim, fun H H' e ⟨kvs, h1, h2⟩ => ⟨kvs, e.k D _ (fun z => z) h1, h2.mono (fun _ _ z => z.elim) e⟩⟩
/-- a block that ends with a return, the dict at D -/
def VSd (S : AS) (X : Cx) (D : Addr) (L : RL) (sts : List Stmt) (δ : DE) (R : PyData → Prop) : Prop := ∀ (σ : L2.St) (H : Hp) (E : Ends), (Fm.dk X.K S D L).ok H → StD X.K (fun a => S a ∨ a = D) H σ δ →
  (∀ v H' d, Xt (fun a _ => a = D) H H' → Dn X.K (fun a => S a ∨ a = D) H' v d → R d → E.rt v H') → semSs X sts E σ H
section
variable {S : AS} {X : Cx} {D : Addr} {L : RL} {δ : DE} {R : PyData → Prop} {e : Expr} {rest : List Stmt} {pos : Pos}
theorem vsd_ret (he : VE (Fm.dk X.K S D L) X e δ R) : VSd S X D L (.Return (some e) pos :: rest) δ R := fun σ H E o s q =>
  (pss_cons (ps_ret (pe_sem X e)) (pss_sem X rest)).sem (he σ H _ o s fun v H1 d e1 o1 n1 kd => q v H1 d e1.of0 n1 kd)
theorem dk_put {σ : L2.St} {H : Hp} {v : V} {d : PyData} {q : Rule} (o : (Fm.dk X.K S D L).ok H) (n : Dn X.K (fun a => S a ∨ a = D) H v d) (hl : L.length < 1000) : ∃ H', DPut H D (.str q.s) v H' ∧ Xt (fun a _ => a = D) H H' ∧ (Fm.dk X.K S D ((q, d) :: L)).ok H' := by
  obtain ⟨⟨kvs, h1, h2⟩, hdom⟩ := o
  have xt : Xt (fun a _ => a = D) H (upd H D (.dK (putK kvs (.inr q.s) v))) := .put (.inl fun _ => rfl)
  refine ⟨_, DPut.k (k := .inr q.s) h1 (Nat.lt_of_le_of_lt h2.1 (Nat.lt_of_lt_of_le hl (by decide))), xt, ⟨_, upd_same, (h2.put n).mono (C := fun a _ => a = D) (fun a _ z => .inl (.inr z)) xt⟩, fun a sa => ?_⟩
  by_cases z : a = D
  · subst z; rw [upd_same]; exact fun z => by cases z
  · rw [upd_ne z]; exact hdom a sa
/-- found[q] = e -/
theorem vsd_put (q : Rule) (i : Nat) {x : Str} {p1 p2 pt : Pos} {j : Nat} {d : PyData} (hr : X.A.units + 1 < cLine) (he : VD (Fm.dk X.K S D L) X e δ d) (hrest : VSd S X D ((q, d) :: L) rest δ R) (hl : L.length < 1000 := by exact Nat.le_of_ble_eq_true rfl) (hd : δ[i]? = some (some (.raw (.ref D))) := by rfl) (hN : X.N[i]? = some x := by rfl)
    (hv : Vis X.env.scope x := by first | exact Or.inl rfl | exact Or.inr (Or.inl rfl)) (hdb : (x == ("__debug__" : Str)) = false := by decide) (hcd : (x == ("__classdict__" : Str)) = false := by decide)
    (hs : swapsWith e (some (.Subscript (.Name x p1) (.Constant (.str q.s) j p2) pt)) pos.line X.env = pure false := by rfl) :
    VSd S X D L (.Assign [.Subscript (.Name x p1) (.Constant (.str q.s) j p2) pt] e pos :: rest) δ R := fun σ H E o s k =>
  (pss_cons (ps_dput hr (pe_var hN hv hdb hcd) pe_str (pe_sem X e) hs) (pss_sem X rest)).sem (he σ H _ o s fun v H1 d' e1 o1 n1 kd => by
    subst kd
    obtain ⟨u, h1, h2⟩ := s.at_ i _ hd
    have h2' : u = .ref D := h2
    subst h2'
    refine ⟨_, h1, D, ?_⟩
    obtain ⟨H4, g1, g2, g3⟩ := dk_put (σ := σ) (q := q) o1 n1 hl
    refine ⟨H4, rfl, g1, ?_⟩
    have x14 : Xt (fun a _ => a = D) H H4 := e1.of0.trans g2
    exact hrest σ H4 E g3 (s.mono (fun a _ z => .inl (.inr z)) x14) fun v' H' d2 e3 n3 k3 => k v' H' d2 (x14.trans e3) n3 k3)
/-- found[q1], found[q2], .. as targets -/
def putAll : RL → List Rule → List PyData → RL
  | L, q :: qs, d :: ds => putAll ((q, d) :: L) qs ds
  | L, _, _ => L
structure PD (X : Cx) (i : Nat) (ts : List Expr) (qs : List Rule) : Prop where
  run : ∃ t, PGs X ts t ∧ ∀ (S : AS) (D : Addr) (L : RL) (δ : DE) (σ : L2.St) (H : Hp) (vs : List V) (ds : List PyData) (Q : L2.St → Hp → Prop), δ[i]? = some (some (.raw (.ref D))) → L.length + qs.length < 1000 → (Fm.dk X.K S D L).ok H → StD X.K (fun a => S a ∨ a = D) H σ δ → DnAll X.K (fun a => S a ∨ a = D) H vs ds → ds.length = qs.length →
    (∀ H', Xt (fun a _ => a = D) H H' → (Fm.dk X.K S D (putAll L qs ds)).ok H' → Q σ H') → t vs σ H Q
theorem pd_nil {i : Nat} : PD X i [] [] := ⟨gNil, pgs_nil, fun S D L δ σ H vs ds Q _ _ o s n hl q => by
  cases ds with
  | nil => cases n; exact ⟨rfl, q H (.refl H) o⟩
  | cons d ds => simp at hl⟩
theorem pd_cons (q : Rule) {i : Nat} {x : Str} {p1 p2 pt : Pos} {j : Nat} {ts : List Expr} {qs : List Rule} (hr : X.A.units + 1 < cLine) (h : PD X i ts qs) (hN : X.N[i]? = some x := by rfl) (hv : Vis X.env.scope x := by first | exact Or.inl rfl | exact Or.inr (Or.inl rfl)) (hdb : (x == ("__debug__" : Str)) = false := by decide)
    (hcd : (x == ("__classdict__" : Str)) = false := by decide) (hs : (assignEach (.Subscript (.Name x p1) (.Constant (.str q.s) j p2) pt :: ts) X.env).map (·.2) = assign (.Subscript (.Name x p1) (.Constant (.str q.s) j p2) pt) X.env :: (assignEach ts X.env).map (·.2) := by rfl) :
    PD X i (.Subscript (.Name x p1) (.Constant (.str q.s) j p2) pt :: ts) (q :: qs) := by
  obtain ⟨t, h1, h2⟩ := h.run
  refine ⟨_, pgs_cons (pg_sub (pe_var hN hv hdb hcd) pe_str (set_dict hr)) h1 hs, fun S D L δ σ H vs ds Q hd hL o s n hl k => ?_⟩
  cases ds with
  | nil => simp at hl
  | cons d ds =>
    cases n with
    | cons n1 n2 =>
      obtain ⟨u, g1, g2⟩ := s.at_ i _ hd
      have g2' : u = .ref D := g2
      subst g2'
      obtain ⟨H4, k1, k2, k3⟩ := dk_put (σ := σ) (q := q) o n1 (by simp at hL; omega)
      refine ⟨_, _, rfl, _, g1, _, H4, rfl, k1, ?_⟩
      refine h2 S D ((q, d) :: L) δ σ H4 _ ds Q hd (by simp at hL ⊢; omega) k3 (s.mono (fun a _ z => .inl (.inr z)) k2) (Dn.monoAll (S := fun a => S a ∨ a = D) (fun a _ z => .inl (.inr z)) k2 _ _ n2) (by simpa using hl) fun H' e' o' => k H' (k2.trans e') o'
theorem vsd_unp (i : Nat) {ts : List Expr} {qs : List Rule} {k1 : Nat} {pt : Pos} {ds : List PyData} (h : PD X i ts qs) (he : VD (Fm.dk X.K S D L) X e δ (.tuple ds)) (hrest : VSd S X D (putAll L qs ds) rest δ R) (hlen : ds.length = qs.length := by rfl) (hl : L.length + qs.length < 1000 := by exact Nat.le_of_ble_eq_true rfl) (hd : δ[i]? = some (some (.raw (.ref D))) := by rfl)
    (hn : (assignEach ts X.env).length = qs.length := by rfl) (hc : X.calm = true := by rfl) (hst : (assignEach ts X.env).findIdx? (·.1) = none := by rfl)
    (hs : swapsWithSole [.Tuple ts k1 pt] e pos.line X.env = pure false := by rfl) (hw : swappedStores [.Tuple ts k1 pt] e X.env = pure none := by rfl) (h1 : (assignEach [.Tuple ts k1 pt] X.env).map (·.2) = [assign (.Tuple ts k1 pt) X.env] := by rfl) :
    VSd S X D L (.Assign [.Tuple ts k1 pt] e pos :: rest) δ R := by
  obtain ⟨t, g1, g2⟩ := h.run
  exact fun σ H E o s k => (pss_cons (ps_asg (pe_sem X e) (pg_tup hc g1 hn hst) hs hw h1) (pss_sem X rest)).sem (he σ H _ o s fun v H1 d' e1 o1 n1 kd => by
    subst kd
    cases n1 with
    | tup sq al =>
      refine ⟨_, _, rfl, sq.sq, by rw [al.length, hlen], g2 S D L δ σ H1 _ ds _ hd hl o1 (o.all s e1) al hlen fun H' e' o' => ?_⟩
      have x1 : Xt (fun a _ => a = D) H H' := (e1.of0 (C := fun a _ => a = D)).trans e'
      exact hrest σ H' E o' (s.mono (fun a _ z => .inl (.inr z)) x1) fun v' H2 d2 e3 n3 k3 => k v' H2 d2 (x1.trans e3) n3 k3)
/-- found[e], e the text of a rule -/
theorem vd_getR (r : Rule) (i : Nat) {x : Str} {p1 : Pos} {d : PyData} (hu : X.A.units + 1 < cLine) (he : VD (Fm.dk X.K S D L) X e δ (.str r.s)) (h : getR L r = some d) (hd : δ[i]? = some (some (.raw (.ref D))) := by rfl) (hN : X.N[i]? = some x := by rfl) (hv : Vis X.env.scope x := by first | exact Or.inl rfl | exact Or.inr (Or.inl rfl))
    (hdb : (x == ("__debug__" : Str)) = false := by decide) (hcd : (x == ("__classdict__" : Str)) = false := by decide) (hs : NoSl e := by intro _ _; rfl) : VD (Fm.dk X.K S D L) X (.Subscript (.Name x p1) e pos) δ d := fun σ H Q o s q =>
  (pe_dget hu (pe_var hN hv hdb hcd) (pe_sem X e) hs).sem (by
    obtain ⟨u, h1, h2⟩ := s.at_ i _ hd
    have h2' : u = .ref D := h2
    subst h2'
    refine ⟨_, h1, he σ H _ o s fun v H1 d' e1 o1 n1 kd => ?_⟩
    subst kd
    obtain ⟨kvs, k1, k2⟩ := o1.1
    obtain ⟨w, g1, g2⟩ := k2.2 r d h
    have dg := DGet.k (k := Sum.inr r.s) k1
    rw [g1] at dg
    obtain rfl : v = .str r.s := n1.sc rfl
    exact ⟨D, w, rfl, dg, q w H1 d e1 o1 g2 rfl⟩)
end
/-! the display -/
inductive VPs (F : Fm) (X : Cx) (δ : DE) : List (Option Expr) → List Expr → RL → Prop
  | nil : VPs F X δ [] [] []
  | cons (q : Rule) {i : Nat} {p : Pos} {v : Expr} {d : PyData} {ks : List (Option Expr)} {vs : List Expr} {L : RL} : VD F X v δ d → VPs F X δ ks vs L → VPs F X δ (some (.Constant (.str q.s) i p) :: ks) (v :: vs) ((q, d) :: L)
def kvR (L : RL) (vs : List V) : List (Key × V) := List.zipWith (fun p v => (Sum.inr p.1.s, v)) L vs
theorem VPs.run {F : Fm} {X : Cx} {δ : DE} {pos : Pos} : ∀ {ks : List (Option Expr)} {vs : List Expr} {L : RL}, VPs F X δ ks vs L → ∃ trs, PPs X pos ks vs trs ∧ ∀ (σ : L2.St) (H : Hp) (Q : List (V × V) → Hp → Prop), F.ok H → StD X.K F.S H σ δ →
    (∀ H' ws, Xt F.C H H' → F.ok H' → DnAll X.K F.S H' ws (L.map (·.2)) → Q ((kvR L ws).map fun kv => (kV kv.1, kv.2)) H') → tPairs trs σ H Q
  | _, _, _, .nil => ⟨[], pps_nil, fun σ H Q o s q => q H [] (.refl H) o .nil⟩
  | _, _, _, .cons (q := q) (d := d) (L := L) hv hr => by
    obtain ⟨trs, h1, h2⟩ := hr.run (pos := pos)
    refine ⟨_, pps_cons pe_str (pe_sem X _) h1, fun σ H Q o s k => ?_⟩
    refine hv σ H _ o s fun v H1 d' e1 o1 n1 kd => ?_
    subst kd
    refine h2 σ H1 _ o1 (o.all s e1) fun H' ws e2 o2 n2 => ?_
    exact k H' (v :: ws) (e1.trans e2) o2 (.cons (Dn.mono F.sub e2 _ _ n1) n2)
theorem kvR_len {L : RL} {ws : List V} (h : ws.length = L.length) : (kvR L ws).length = L.length := by
  unfold kvR
  rw [List.length_zipWith, h, Nat.min_self]
theorem KvR.merge {K : PySem.W.Frag} {S : AS} {H : Hp} : ∀ {M : RL} {ws : List V} {kvs : List (Key × V)} {L : RL}, KvR K S H kvs L → DnAll K S H ws (M.map (·.2)) → KvR K S H (mergeK kvs (kvR M ws)) (M.reverse ++ L)
  | [], _, _, _, h, n => by cases n; exact h
  | (q, d) :: M, _, kvs, L, h, .cons (v := v) (vs := ws) n1 n2 => by
    have := KvR.merge (M := M) (h.put (q := q) n1) n2
    rw [List.reverse_cons, List.append_assoc]
    exact this
mutual
/-- data does not touch a dict -/
theorem dn_off1 {K : PySem.W.Frag} {S : AS} {H : Hp} {D : Addr} {kvs : List (Key × V)} (h : H D = some (.dK kvs)) : ∀ {v : V} {d : PyData}, Dn K S H v d → Dn K (fun a => S a ∨ a = D) H v d
  | _, _, .non => .non
  | _, _, .bl _ => .bl _
  | _, _, .int _ => .int _
  | _, _, .str _ => .str _
  | _, _, .lst hs al => .lst (by
      obtain ⟨n, r⟩ := hs
      refine ⟨fun z => z.elim n fun e => ?_, r⟩
      subst e
      rw [h] at r; cases r) (dn_off h al)
  | _, _, .tup hs al => .tup (by
      rcases hs with ⟨n, o, hd, r⟩ | r
      · refine .inl ⟨fun z => z.elim n fun e => ?_, o, hd, r⟩
        subst e
        rw [h] at r; cases r
      · exact .inr r) (dn_off h al)
theorem dn_off {K : PySem.W.Frag} {S : AS} {H : Hp} {D : Addr} {kvs : List (Key × V)} (h : H D = some (.dK kvs)) : ∀ {vs : List V} {ds : List PyData}, DnAll K S H vs ds → DnAll K (fun a => S a ∨ a = D) H vs ds
  | _, _, .nil => .nil
  | _, _, .cons n1 n2 => .cons (dn_off1 h n1) (dn_off h n2)
end
/-- found = {..} -/
theorem vs_disp {S : AS} {X : Cx} {δ : DE} {R : Out} {rest : List Stmt} {pos pd px : Pos} {x : Str} {ks : List (Option Expr)} {vs : List Expr} {L : RL} (i : Nat) (h : VPs (Fm.pure S) X δ ks vs L) (hrest : ∀ D, VSd S X D (L.reverse ++ []) rest (δ.set i (some (.raw (.ref D)))) R.rt) (hN : X.N.Nodup) (h15 : L.length ≤ 15 := by exact Nat.le_of_ble_eq_true rfl)
    (hall : ks.all (·.isSome) = true := by rfl) (hl : ks.length = vs.length := by rfl) (h0 : ks ≠ [] := by exact fun z => by cases z) (hk : ks.length ≤ 15 := by exact Nat.le_of_ble_eq_true rfl) (hi : X.N[i]? = some x := by rfl) (hx : Loc X.env.scope x := by first | exact Or.inl rfl | exact Or.inr rfl)
    (hs : swapsWith (.Dict ks vs pd) (some (.Name x px)) pos.line X.env = pure false := by rfl) (hf : X.fn x = true ∨ X.env.scope.names.lookup x = some .local := by first | exact .inl rfl | exact .inr rfl) : VS (Fm.pure S) X (.Assign [.Name x px] (.Dict ks vs pd) pos :: rest) δ R := fun σ H E o s q => by
  obtain ⟨trs, h1, h2⟩ := h.run (pos := pd)
  refine (pss_cons (ps_set hN hi hx (pe_disp h1 hall hl h0 hk) hs hf) (pss_sem X rest)).sem ?_
  intro p hp
  have xt1 : Xt C0 H (upd H p (.dK [])) := .new hp
  refine h2 σ _ _ (o.mono xt1) (s.mono (C := C0) (fun _ _ z => z.elim) xt1) fun H2 ws e2 o2 n2 => ?_
  have hp2 : H2 p = some (.dK []) := e2.k p _ (fun z => z) upd_same
  have hlen : ws.length = L.length := by rw [n2.length, List.length_map]
  refine ⟨hp2, kvR L ws, rfl, by rw [kvR_len hlen]; exact h15, ?_⟩
  have x2 : Xt (fun a _ => a = p) H2 (upd H2 p (.dK (mergeK [] (kvR L ws)))) := .put (.inl fun _ => rfl)
  have x02 : Xt C0 H (upd H2 p (.dK (mergeK [] (kvR L ws)))) := (xt1.trans e2).put2 hp
  have nS : ¬ S p := fun z => o.2 p z hp
  have less2 : ∀ a, H2 a ≠ none → (S a ∨ a = p) → a ≠ p → S a := fun a _ z n => z.resolve_right n
  -- data of H stays away from p
  have away : ∀ a, H a ≠ none → (S a ∨ a = p) → S a := fun a ha z => z.resolve_right fun e => ha (e ▸ hp)
  have s2 : StD X.K (fun a => S a ∨ a = p) (upd H2 p (.dK (mergeK [] (kvR L ws)))) σ δ := (s.less away).mono (C := C0) (fun _ _ z => z.elim) x02
  have n3 : DnAll X.K (fun a => S a ∨ a = p) H2 ws (L.map (·.2)) := dn_off hp2 n2
  refine hrest p _ _ E ⟨⟨_, upd_same, ?_⟩, fun a sa => ?_⟩ (s2.set (s := .raw (.ref p)) i rfl) fun v H' d e3 n4 kd => ?_
  · have kv := KvR.merge (M := L) (L := []) (kvs := []) ⟨Nat.le_refl _, fun r d hr => by cases hr⟩ n3
    exact kv.mono (C := fun a _ => a = p) (fun a _ z => .inl (.inr z)) x2
  · by_cases z : a = p
    · subst z; rw [upd_same]; exact fun z => by cases z
    · rw [upd_ne z]
      rcases sa with sa | sa
      · exact o2.2 a sa
      · exact absurd sa z
  · have x03 : Xt C0 H H' := ⟨fun a u _ ha => e3.k a u (fun z => by rw [z, hp] at ha; cases ha) (x02.k a u (fun z => z) ha)⟩
    exact q.rt v H' d x03 ⟨trivial, fun a sa z => by
      cases hq : H a with
      | none => exact o.2 a sa hq
      | some u => rw [x03.k a u (fun z => z) hq] at z; cases z⟩ (Dn.less (fun a _ z => .inl z) _ _ n4) kd
end Dl
set_option Elab.async false
set_option linter.all false
set_option maxRecDepth 100000
set_option maxHeartbeats 4000000
namespace Dl
open PySem PySem.Spec PyProof.Rows L2
section
variable {F : Fm} {X : Cx} {δ : DE} {R : Out} {rest : List Stmt} {pos : Pos}
/-- [elt for x in iter if ..], its value known -/
theorem vd_lcd {x : Str} {px : Pos} {elt iter : Expr} {ifs : List Expr} {scope : Scope} {ds : List PyData} (j : Nat) (b : PyData → Bool) (g : PyData → PyData) (hi : VI F X (.Name x px) iter δ fun xs => xs = ds) (hl : ds.length ≤ 100000)
    (ht : ∀ d ∈ ds, ∀ (E : Addr) (s : Shared) (H : Hp) (C : Addr) (cl : List (Str × Addr)) (fp : List Addr), VTs (F.more E) (X.blk s H scope (compEnvC scope cl C X.env) fp) ifs (δ.set j (some (.dat d))) fun t => t = b d)
    (he : ∀ d ∈ ds, b d = true → ∀ (E : Addr) (s : Shared) (H : Hp) (C : Addr) (cl : List (Str × Addr)) (fp : List Addr), VD (F.more E) (X.blk s H scope (compEnvC scope cl C X.env) fp) elt (δ.set j (some (.dat d))) (g d))
    (hN : X.N.Nodup) (ok : BlkOk X.N X.env.scope scope [(x, j)]) (hg : ∀ (s : Shared) (H : Hp) (C : Addr) (cl : List (Str × Addr)) (fp : List Addr), PG (X.blk s H scope (compEnvC scope cl C X.env) fp) (.Name x px) (gName j))
    (hc : X.calm = true := by rfl) (hs : ∀ x, foldedSetIterable iter X.env x = pure x := by intro _; rfl) (hsf : F.soft := by first | exact Fm.soft_pure | assumption | exact HasRow.soft (by assumption) | exact Fm.soft_more Fm.soft_pure | exact Fm.soft_more (HasRow.soft (by assumption))) : VD F X (.ListComp elt [⟨.Name x px, iter, ifs, 0⟩] scope pos) δ (.list ((ds.filter b).map g)) :=
  ve_lc j b (fun x y => y = g x) (fun σ H R o s k => hi σ H R o s fun J H' xs e o' w q => k J H' xs e o' w (by
    subst q
    exact ⟨hl, ht, fun d hd hb => he d hd hb, fun ys hy => by rw [LcR.det hy]⟩)) hN ok hg hc hs hsf
end
end Dl
set_option Elab.async false
set_option linter.all false
set_option maxRecDepth 100000
set_option maxHeartbeats 4000000
namespace Dl
open PySem PySem.Spec PyProof.Rows L2 LamX
/-! ### expressions that raise -/
/-! ### lambdas that raise, handed to a def that tells the error's word -/
end Dl
set_option Elab.async false
set_option linter.all false
set_option maxRecDepth 100000
set_option maxHeartbeats 4000000
namespace Dl
open PySem PySem.Spec PyProof.Rows L2
/-! ### more of lists and tuples -/
section
variable {F : Fm} {X : Cx} {δ : DE} {k : PyData → Prop} {e a b c : Expr} {es : List Expr} {pos p : Pos} {x : Str} {d : PyData} {ds : List PyData}
/-- list(t), t a list or a tuple -/
theorem vd_listOf (hm : X.mg "list" = none) (ha : VD F X a δ d) (hd : seqOf d = some ds) (hg : Gl X "list" := by rfl) (he : starEach [a] X.env = [(false, eval a X.env)] := by rfl) : VD F X (.Call (.Name "list" p) [a] [] pos) δ (.list ds) :=
  ve_callTy call_list_of hm (by decide +kernel) (VA.to (vl_cons ha vl_nil he) ⟨_, fun S H vs Q hS n q => by
    cases n with
    | cons n1 n2 =>
      cases n2
      obtain ⟨l, xs, rfl, sq, al⟩ := Dn.seq n1 hd
      exact ⟨_, _, rfl, sq, fun l hl => q _ _ (.new hl) (.lst ⟨fun z => hS _ z hl, upd_same⟩ (Dn.monoAll (C := C0) (fun _ _ z => z.elim) (.new hl) _ _ al))⟩, rfl⟩) hg (by decide) (by decide) he rfl
end
end Dl
set_option Elab.async false
set_option linter.all false
set_option maxRecDepth 100000
set_option maxHeartbeats 4000000
namespace Dl
open PySem PySem.Spec PyProof.Rows L2
/-! ### [x for x in xs if ..], the test a draw: some of the items -/
end Dl
set_option Elab.async false
set_option linter.all false
set_option maxRecDepth 100000
set_option maxHeartbeats 4000000
/-! Cn: a list comprehension of any number of fors; a set comprehension of one whose items are tuples of texts -/
namespace Cn
open PySem PySem.Spec PyProof.Rows L2
/-- a for of a comprehension, plain -/
abbrev pl (tg iter : Expr) (ifs : List Expr) : Comprehension := ⟨tg, iter, ifs, 0⟩
/-- a turn: the next item is stored, the tests are asked, then what is done with it -/
def tb (p : Pos) (tg : Expr) (ifs : List Expr) (it : Value) (env : Env) (body nxt : Sem PySem.Fin) : Sem PySem.Fin := do
  standAt p
  match ← pyNext it with
  | none => pure (.done .next)
  | some v =>
    letOwnedTupleGo tg it v; assign tg env v
    let r ← forIn ifs true fun c r => (if r = true then do let ok ← isTrue c env (eval c env); pure (ForInStep.yield ok) else pure (ForInStep.yield r))
    if r = true then body else nxt
/-- what is done with it: the next for, or an item more -/
def bodyAt (e elt : Expr) (gens : List Comprehension) (d : Nat) (acc : Value) (env : Env) (L : Code) : Sem PySem.Fin := match gens[d]? with
  | some g => do
    let x ← eval g.iter env; standAt g.iter.pos
    let x ← foldedSetIterable g.iter env x; let _ ← runOwn (.compStart e d (← holding [x] (pyIter x)) acc env) env
    again L
  | none => do
    (do let _ ← call (.builtin "list.append") [acc, ← eval elt env])
    again L
section
variable {elt tg iter : Expr} {ifs : List Expr} {scope : Scope} {pos : Pos} {it acc : Value} {env : Env} {gens : List Comprehension} {d : Nat}
theorem turn_is (h0 : gens[d]? = some (pl tg iter ifs)) (h1 : ∀ g, gens[d + 1]? = some g → g.is_async = 0) : compTurn (.ListComp elt gens scope pos) d it acc env =
    tb iter.pos tg ifs it env (bodyAt (.ListComp elt gens scope pos) elt gens (d + 1) acc env (.compLoop (.ListComp elt gens scope pos) d it acc env)) (again (.compLoop (.ListComp elt gens scope pos) d it acc env)) := by
  unfold compTurn tb bodyAt
  cases e : gens[d + 1]? with
  | none =>
    simp only [h0, e]
    rfl
  | some g =>
    obtain ⟨t1, i1, f1, a1⟩ := g
    have z : a1 = 0 := h1 _ e
    subst z
    simp only [h0, e]
    rfl
theorem turn_set : compTurn (.SetComp elt [pl tg iter ifs] scope pos) 0 it acc env = tb iter.pos tg ifs it env (do
      (do let v ← eval elt env; standAt elt.pos; let _ ← call (.builtin "set.add") [acc, v])
      again (.compLoop (.SetComp elt [pl tg iter ifs] scope pos) 0 it acc env)) (again (.compLoop (.SetComp elt [pl tg iter ifs] scope pos) 0 it acc env)) := rfl
end
section
variable {prog : Program} {w : World} {A : Around} {s : Shared} {e elt : Expr} {scope : Scope} {pos : Pos} {it acc : Value} {env : Env} {gens : List Comprehension} {d : Nat}
abbrev No : Value → Shared → Prop := fun _ _ => False
theorem loop_tb {R : Result → Shared → Prop} {p : Pos} {tg : Expr} {ifs : List Expr} {body : Sem PySem.Fin} (hq : (Code.compLoop e d it acc env).quiet = true) (hA : A.under (.compLoop e d it acc env) = A) (hden : (model prog w).den (.compLoop e d it acc env) = (compTurn e d it acc env).onRaise fun x => do noteFrame x env; theTreesLotGoes x)
    (hd : compTurn e d it acc env = tb p tg ifs it env body (again (.compLoop e d it acc env))) (I : Nat → Shared → Prop)
    (turn : ∀ n s, I n s → wpAny (model prog w) A (pyNext it) (fun r s1 => match r with
      | none => R (.ok .next) s1
      | some v => wpAny (model prog w) A (letOwnedTupleGo tg it v) (fun _ s2 => wpAny (model prog w) A (assign tg env v) (fun _ s3 => wpAny (model prog w) A (forIn ifs true fun c r => (if r = true then do let ok ← isTrue c env (eval c env); pure (ForInStep.yield ok) else pure (ForInStep.yield r)))
          (fun ok s4 => if ok = true then wpAny (model prog w) A body (fun fin s' => fin = .again (.compLoop e d it acc env) ∧ ∃ m, m < n ∧ I m s') No s4 else ∃ m, m < n ∧ I m s4) No s3) No s2) No s1) No s) (n : Nat) (h : I n s) : codeAny (model prog w) A (.compLoop e d it acc env) R s := by
  refine codeAny_loop hq I (fun n s hI => ?_) n h
  rw [hA, hden, hd]
  refine wpAny_noted ?_
  unfold tb
  refine wpAny_bind (wpAny_standAt (wpAny_bind (thnF (turn n s hI) fun r s1 h1 => ?_)))
  cases r with
  | none => exact wpAny_pure h1
  | some v =>
    refine wpAny_bind (thnF h1 fun _ s2 h2 => wpAny_bind (thnF h2 fun _ s3 h3 => wpAny_bind (thnF h3 fun ok s4 h4 => ?_)))
    cases ok with
    | false => exact wpAny_pure ⟨rfl, h4⟩
    | true =>
      refine thnF h4 fun fin s' g => ?_
      obtain ⟨rfl, g⟩ := g
      exact ⟨rfl, g⟩
theorem start_ok {R : Result → Shared → Prop} {g : Comprehension} (hg : gens[d]? = some g) (h0 : g.is_async = 0) (hl : codeAny (model prog w) A (.compLoop (.ListComp elt gens scope pos) d it acc env) R s)
    (hi : wpAny (model prog w) A (pyIter it) (fun it' s' => codeAny (model prog w) A (.compLoop (.ListComp elt gens scope pos) d it' acc env) R s') (notedBy (model prog w) A env fun x s' => R (.error x) s') s) : codeAny (model prog w) A (.compStart (.ListComp elt gens scope pos) d it acc env) R s := by
  refine codeAny_of_tree ?_
  show wpAny _ _ ((compStart (.ListComp elt gens scope pos) d it acc env).onRaise fun x => do noteFrame x env; standAt theWindowsPlace) _ _ s
  refine wpAny_notedAt ?_
  unfold compStart
  have cl : clausesOf (.ListComp elt gens scope pos) = gens := rfl
  have na : (g.is_async != 0) = false := by rw [h0]; rfl
  rw [cl, hg]
  simp only [Option.elim, na, Bool.false_eq_true, if_false]
  refine wpAny_bind (wpAny_askSetting (wpAny_ite ?_))
  split
  · first
      | exact wpAny_pure (And.intro rfl hl)
      | exact wpAny_bind (wpAny_pure (wpAny_pure (And.intro rfl hl)))
  · refine wpAny_bind (wpAny_rule ?_)
    first
      | exact wpAny_bind (wpAny_standAt (wpAny_bind (wpAny_mono hi (fun it' s' z => wpAny_pure (And.intro rfl z)) fun _ _ x => x)))
      | exact wpAny_bind (wpAny_pure (wpAny_bind (wpAny_mono hi (fun it' s' z => wpAny_pure (And.intro rfl z)) fun _ _ x => x)))
end
/-! ### a for, read -/
structure Cl where
  tg : Expr
  iter : Expr
  ifs : List Expr
  wi : TI
  g : TG
  tt : TT
  /-- the slots of its own target and of the later ones' -/
  ws : List Nat
abbrev Cl.c (c : Cl) : Comprehension := pl c.tg c.iter c.ifs
structure ClOk (X : Cx) (c : Cl) : Prop where
  i : PI X c.tg c.iter c.wi
  g : PG X c.tg c.g
  t : PTs X c.ifs c.tt
  s : ∀ x, foldedSetIterable c.iter X.env x = pure x
/-- the turns of a for whose item is done with by inn; Nx behind the last one -/
def tLoop (g : TG) (tt : TT) (ws : List Nat) (inn : L2.St → Hp → (Hp → Prop) → Prop) (J : It) (σ : L2.St) (H : Hp) (Nx : Hp → Prop) : Prop := ∃ W : Nat → Nat → Hp → Prop, (∃ m, W 0 m H) ∧ ∀ i m H, W i m H →
  (J.stop i H ∧ Nx H) ∨ (J.go i H ∧ ∃ Ny : Hp → Prop, (∀ H', Ny H' → ∃ m', m' < m ∧ W (i + 1) m' H') ∧ ∀ x H', J.yld i H x H' → g x (wipe σ ws) H' fun σ2 H2 => wipe σ2 ws = wipe σ ws ∧ tt σ2 H2 fun b H3 => if b = true then inn σ2 H3 Ny else Ny H3)
def tIn (D : Addr) (te : TE) : List Cl → L2.St → Hp → (Hp → Prop) → Prop
  | [], σ, H, Nx => te σ H fun y H1 => ∃ acc, H1 D = some (.lst acc) ∧ acc.length < sizeLine ∧ Nx (upd H1 D (.lst (acc ++ [y])))
  | c :: cs, σ, H, Nx => c.wi σ H fun J H1 => tLoop c.g c.tt c.ws (tIn D te cs) J σ H1 Nx
def innW : List Cl → List Nat
  | [] => []
  | c :: _ => c.ws
def Chain : List Cl → Prop
  | [] => True
  | c :: cs => (∀ i ∈ innW cs, i ∈ c.ws) ∧ Chain cs
section
variable {X : Cx}
theorem loop_run {e : Expr} {d : Nat} {it : Addr} {acc : Value} {fp : List Addr} {tn : Nat → Heap → Prop} {J : It} {pins : List (Addr × Obj)} {σ : L2.St} {H : Hp} {s : Shared} {tg iter : Expr} {ifs : List Expr} {g : TG} {tt : TT} {ws wi : List Nat} {body : Sem PySem.Fin} {R : Result → Shared → Prop} {Nx : Hp → Prop}
    {inn : L2.St → Hp → (Hp → Prop) → Prop} (hx : X.xe = No) (hc : X.calm = true) (pg : PG X tg g) (pt : PTs X ifs tt) (T : Turn X.prog X.w X.K tg J fp it tn) (stat : ∀ {σ' : L2.St} {H' : Hp} {s' : Shared}, Inv X pins σ' H' s' → (∀ b ∈ fp, H' b = none) → ∀ b ∈ fp, FpOk X pins H' b)
    (hq : (Code.compLoop e d (.ref it) acc X.env).quiet = true) (hA : X.A.under (.compLoop e d (.ref it) acc X.env) = X.A) (hden : (model X.prog X.w).den (.compLoop e d (.ref it) acc X.env) = (compTurn e d (.ref it) acc X.env).onRaise fun x => do noteFrame x X.env; theTreesLotGoes x)
    (hd : compTurn e d (.ref it) acc X.env = tb iter.pos tg ifs (.ref it) X.env body (again (.compLoop e d (.ref it) acc X.env))) (sub : ∀ i ∈ wi, i ∈ ws)
    (hin : ∀ (ps : List (Addr × Obj)) (s : Shared) (σ : L2.St) (H : Hp) (Ny : Hp → Prop), Inv X ps σ H s → inn σ H Ny → wpAny (model X.prog X.w) X.A body (fun fin s' => fin = .again (.compLoop e d (.ref it) acc X.env) ∧ ∃ H', Inv X ps (wipe σ wi) H' s' ∧ Ny H') No s)
    (stop : ∀ H' s', Inv X pins (wipe σ ws) H' s' → Nx H' → R (.ok .next) s') (I0 : Inv X pins (wipe σ ws) H s) (t0 : tn 0 s.heap) (n0 : ∀ b ∈ fp, H b = none) (q : tLoop g tt ws inn J σ H Nx) : codeAny (model X.prog X.w) X.A (.compLoop e d (.ref it) acc X.env) R s := by
  obtain ⟨W, ⟨m0, w0⟩, step⟩ := q
  refine loop_tb hq hA hden hd (fun n z => ∃ i K, Inv X pins (wipe σ ws) K z ∧ tn i z.heap ∧ (∀ b ∈ fp, K b = none) ∧ W i n K) (fun n z hz => ?_) m0 ⟨0, H, I0, t0, n0, w0⟩
  obtain ⟨i, K, IK, tK, nK, wK⟩ := hz
  rcases step i n K wK with ⟨off, nx⟩ | ⟨on, Ny, hNy, go⟩
  · refine thnF (T.done X rfl rfl rfl hc i pins z _ K No IK (stat IK nK) tK off) fun r z1 hr => ?_
    obtain ⟨rfl, I1⟩ := hr
    exact stop K z1 I1 nx
  · refine thnF (T.item X rfl rfl rfl hc i pins z _ K No IK (stat IK nK) tK on) fun r z1 hr => ?_
    obtain ⟨u, rfl, hr⟩ := hr
    refine thnF hr fun _ z2 hr => ?_
    obtain ⟨x, K2, I2, r2, y2, t2, n2⟩ := hr
    have pgr := pg.run _ z2 _ K2 x u _ (I2.pinned (stat I2 n2) (T.obj _ _ t2)) r2 (go x K2 y2)
    rw [hx] at pgr
    refine thnF pgr fun _ z3 hr => ?_
    obtain ⟨σ3, K3, I3, hw, q3⟩ := hr
    have ptr := pt.run _ z3 σ3 K3 _ I3 q3
    rw [hx] at ptr
    refine thnF ptr fun b z4 hr => ?_
    obtain ⟨K4, I4, q4⟩ := hr
    have back : ∀ {σ' : L2.St} {z' : Shared} {K' : Hp}, Inv X (pins ++ pinsAt fp z2.heap) σ' K' z' → (wipe σ ws).length = σ'.length → (∀ (j : Nat) v, (wipe σ ws)[j]? = some (some v) → σ'[j]? = some (some v)) → Ny K' → ∃ m, m < n ∧ ∃ i K, Inv X pins (wipe σ ws) K z' ∧ tn i z'.heap ∧ (∀ b ∈ fp, K b = none) ∧ W i m K := fun {σ' z' K'} I' hl hk ny => by
      obtain ⟨m', lt, w'⟩ := hNy K' ny
      have pin : ∀ b ∈ fp, ∀ o, z2.heap.get? b = some o → z'.heap.get? b = some o ∧ K' b = none := fun b hb o eo => by
        have := I'.pin (b, o) (List.mem_append_right _ (List.mem_append_right _ (mem_pinsAt hb eo)))
        exact ⟨this.1, this.2.1⟩
      refine ⟨m', lt, i + 1, K', (I'.unpinned (pins := pins)).weak hl hk, T.keep _ _ _ t2 fun b hb o eo => (pin b hb o eo).1, fun b hb => ?_, w'⟩
      obtain ⟨o, eo, _⟩ := T.obj _ _ t2 b hb
      exact (pin b hb o eo).2
    have l3 : (wipe σ ws).length = σ3.length := by rw [← hw, wipe_length]
    cases b with
    | false =>
      simp only [Bool.false_eq_true, if_false] at q4 ⊢
      refine back I4 l3 (fun j v ev => ?_) q4
      rw [← hw] at ev
      exact (wipe_some ev).1
    | true =>
      simp only [if_true] at q4 ⊢
      refine thnF (hin _ z4 σ3 K4 Ny I4 q4) fun fin z5 hr => ?_
      obtain ⟨ef, K5, I5, ny⟩ := hr
      refine ⟨ef, back I5 (l3.trans (wipe_length σ3 wi).symm) (fun j v ev => ?_) ny⟩
      rw [← hw] at ev
      obtain ⟨e1, e2⟩ := wipe_some ev
      rw [wipe_out fun z => e2 (sub j z)]
      exact e1
theorem in_run {elt : Expr} {gens : List Comprehension} {scope : Scope} {pos : Pos} {D : Addr} {te : TE} (hx : X.xe = No) (hc : X.calm = true) (pe : PE X elt te) : ∀ (cs : List Cl) (d : Nat), gens.drop d = cs.map Cl.c → (∀ c ∈ cs, ClOk X c) → Chain cs → ∀ (L : Code) (ps : List (Addr × Obj)) (s : Shared) (σ : L2.St) (H : Hp) (Ny : Hp → Prop), Inv X ps σ H s → tIn D te cs σ H Ny →
      wpAny (model X.prog X.w) X.A (bodyAt (.ListComp elt gens scope pos) elt gens d (.ref D) X.env L) (fun fin s' => fin = .again L ∧ ∃ H', Inv X ps (wipe σ (innW cs)) H' s' ∧ Ny H') No s
  | [], d, hg, _, _, L, ps, s, σ, H, Ny, I, q => by
    have none : gens[d]? = none := by
      have : gens.length ≤ d := by
        have := congrArg List.length hg
        simp at this
        omega
      exact List.getElem?_eq_none this
    unfold bodyAt
    rw [none]
    have per := pe.run ps s σ H _ I q
    rw [hx] at per
    refine wpAny_bind (wpAny_bind (thnF per fun z s1 hr => ?_))
    obtain ⟨y, H1, I1, r1, acc, a1, a2, ny⟩ := hr
    exact wpAny_bind (app_ok I1 a1 a2 r1 fun s2 I2 => wpAny_pure (wpAny_pure ⟨rfl, _, I2, ny⟩))
  | c :: cs, d, hg, hok, hch, L, ps, s, σ, H, Ny, I, q => by
    have at_d : gens[d]? = some c.c := by
      have : (gens.drop d)[0]? = some c.c := by rw [hg]; rfl
      rw [List.getElem?_drop] at this
      exact this
    have drop_d : gens.drop (d + 1) = cs.map Cl.c := by
      rw [← List.drop_drop, hg]
      rfl
    have ok := hok c (.head _)
    have hin := in_run (scope := scope) (pos := pos) (D := D) hx hc pe cs (d + 1) drop_d (fun x hx => hok x (.tail _ hx)) hch.2
    unfold bodyAt
    rw [at_d]
    dsimp only
    have pir := ok.i.run ps s σ H _ I q
    rw [hx] at pir
    refine wpAny_bind (thnF pir fun xv s1 hr => wpAny_bind (wpAny_standAt (wpAny_bind (wpAny_of_eq (ok.s xv) (wpAny_bind (wpAny_holding (thnF hr fun itv s2 hr => ?_)))))))
    obtain ⟨it, fp, tn, J, H2, rfl, I2, T, t2, f2, tl⟩ := hr
    have lp : codeAny (model X.prog X.w) X.A (.compLoop (.ListComp elt gens scope pos) d (.ref it) (.ref D) X.env) (fun r s' => match r with
        | .ok _ => ∃ H', Inv X ps (wipe σ c.ws) H' s' ∧ Ny H'
        | .error _ => False) s2 := by
      refine loop_run (iter := c.iter) hx hc ok.g ok.t T (fun I' n b hb => ⟨n b hb, (f2 b hb).2⟩) rfl rfl rfl (turn_is at_d fun g hg' => ?_) hch.1 (hin _) (fun H' s' I' ny => ⟨H', I', ny⟩) (I2.weak (wipe_length _ _) fun j v ev => (wipe_some ev).1) t2 (fun b hb => (f2 b hb).1) tl
      have : (gens.drop (d + 1))[0]? = some g := by rw [List.getElem?_drop]; exact hg'
      rw [drop_d] at this
      cases cs with
      | nil => cases this
      | cons c2 cs => cases this; rfl
    refine wpAny_bind (wpAny_runOwn ?_)
    rw [Around.mark_none]
    refine codeAny_mono (start_ok at_d rfl lp (T.self X.A 0 _ _ _ t2 lp)) fun r s' hr => ?_
    cases r with
    | ok f => exact wpAny_pure ⟨rfl, hr⟩
    | error x => exact hr.elim
theorem core {pins : List (Addr × Obj)} {s : Shared} {σ : L2.St} {H : Hp} {Q : VK} {e tg iter : Expr} {ifs : List Expr} {gs : List Comprehension} {scope : Scope} {own : List (Str × Nat)} {pos' : Pos} {wi : TI} {g : TG} {tt : TT} {ws : List Nat} {o0 : Addr → HO} {new : Sem Value} {body : Addr → Addr → Env → Sem PySem.Fin} {inn : Addr → L2.St → Hp → (Hp → Prop) → Prop}
    {use : Option (Value → Sem Unit)} {Qf : Value → Shared → Prop} (hc : X.calm = true) (hN : X.N.Nodup) (I : Inv X pins σ H s) (hi : PI X tg iter wi) (ok : BlkOk X.N X.env.scope scope own)
    (hg : ∀ (s : Shared) (H : Hp) (C : Addr) (cl : List (Str × Addr)) (fp : List Addr), PG (X.blk s H scope (compEnvC scope cl C X.env) fp) tg g) (ht : ∀ (s : Shared) (H : Hp) (C : Addr) (cl : List (Str × Addr)) (fp : List Addr), PTs (X.blk s H scope (compEnvC scope cl C X.env) fp) ifs tt) (hs : ∀ x, foldedSetIterable iter X.env x = pure x)
    (hcl : clausesOf e = pl tg iter ifs :: gs) (hnew : ∀ (s : Shared) (σ : L2.St) (H : Hp) {P : Value → Shared → Prop} {E : Value → Shared → Prop}, Inv X pins σ H s → (∀ s', Inv X pins σ (upd H s.heap.objs.size (o0 s.heap.objs.size)) s' → s.heap.objs.size < s'.heap.objs.size → (∀ b o, s.heap.get? b = some o → s'.heap.get? b = some o) → P (.ref s.heap.objs.size) s') → wpAny (model X.prog X.w) X.A new P E s)
    (hd : ∀ it D env, compTurn e 0 (.ref it) (.ref D) env = tb iter.pos tg ifs (.ref it) env (body it D env) (again (.compLoop e 0 (.ref it) (.ref D) env))) (hq : ∀ it D env, (Code.compLoop e 0 (.ref it) (.ref D) env).quiet = true) (hA : ∀ it D env, X.A.under (.compLoop e 0 (.ref it) (.ref D) env) = X.A)
    (hden : ∀ it D env, (model X.prog X.w).den (.compLoop e 0 (.ref it) (.ref D) env) = (compTurn e 0 (.ref it) (.ref D) env).onRaise fun x => do noteFrame x env; theTreesLotGoes x)
    (hstart : ∀ (it D : Addr) (env : Env) (s : Shared) (R : Result → Shared → Prop), codeAny (model X.prog X.w) X.A (.compLoop e 0 (.ref it) (.ref D) env) R s → wpAny (model X.prog X.w) X.A (pyIter (.ref it)) (fun it' s' => codeAny (model X.prog X.w) X.A (.compLoop e 0 it' (.ref D) env) R s') (notedBy (model X.prog X.w) X.A env fun x s' => R (.error x) s') s → codeAny (model X.prog X.w) X.A (.compStart e 0 (.ref it) (.ref D) env) R s)
    (sub : ∀ i ∈ ws, i ∈ own.map (·.2))
    (hin : ∀ (s0 : Shared) (H0 : Hp) (C : Addr) (cl : List (Str × Addr)) (fp : List Addr) (it D : Addr) (ps : List (Addr × Obj)) (s : Shared) (σ : L2.St) (H : Hp) (Ny : Hp → Prop), Inv (X.blk s0 H0 scope (compEnvC scope cl C X.env) fp) ps σ H s → inn D σ H Ny →
      wpAny (model X.prog X.w) X.A (body it D (compEnvC scope cl C X.env)) (fun fin s' => fin = .again (.compLoop e 0 (.ref it) (.ref D) (compEnvC scope cl C X.env)) ∧ ∃ H', Inv (X.blk s0 H0 scope (compEnvC scope cl C X.env) fp) ps (wipe σ ws) H' s' ∧ Ny H') No s)
    (h : wi σ H fun J H1 => ∀ D, H1 D = none → tLoop g tt (own.map (·.2)) (inn D) J σ (upd H1 D (o0 D)) fun H' => Q (.ref D) H')
    (hRR : ∀ D C s' m H', Inv X pins σ H' s' → Q (.ref D) H' → s'.heap.Ns C m → FpOk X pins H' C → compPost (model X.prog X.w) X.A X.xe use Qf (.ref D) C (.ok .next) s') :
    wpAny (model X.prog X.w) X.A (comprehension e scope X.env pos' new false (eval iter X.env) use) Qf X.xe s := by
  have fr : ∀ y ∈ scope.names, y.2 = .free → ∃ c, X.env.cells.lookup y.1 = some c := fun y hy ey => I.ok.has _ ((ok.free y hy ey).imp id id)
  refine wpAny_comprehension_free (use := use) hcl hs (closure_ok fr) ok.kind (fun y hy ey => (ok.uniq y hy).trans (congrArg some ey)) (thn (hi.run pins s σ H _ I h) fun xv s1 hr => thn hr fun itv s2 hr => ?_)
  obtain ⟨it, fp, tn, J, H2, rfl, I2, T, t2, f2, tl⟩ := hr
  refine hnew s2 σ H2 I2 fun s3 I3 lt kp => newEnv_comp ?_
  generalize eD : s2.heap.objs.size = D at I3 lt ⊢
  have q := tl D (I2.hok.fresh (Nat.le_of_eq eD))
  have f3 : ∀ b ∈ fp, FpOk X pins (upd H2 D (o0 D)) b ∧ b < s3.heap.objs.size := fun b hb => by
    obtain ⟨o, eo, _⟩ := T.obj _ _ t2 b hb
    have lb := Heap.lt_size eo
    rw [eD] at lb
    exact ⟨⟨by rw [upd_ne (Nat.ne_of_lt lb)]; exact (f2 b hb).1, (f2 b hb).2⟩, Nat.lt_trans lb lt⟩
  have t3 : tn 0 s3.heap := T.keep _ _ _ t2 fun b _ o eo => kp b o eo
  have I4 := block_start I3 ok hN f3
  generalize ecl : cellsFrom (s3.heap.objs.size + 1) scope.names (cloFrom X.env.cells scope.names []) = cl at I4
  have pg := hg s3 (upd H2 D (o0 D)) s3.heap.objs.size cl fp
  have pt := ht s3 (upd H2 D (o0 D)) s3.heap.objs.size cl fp
  have nn : ∀ b ∈ fp, (upd H2 D (o0 D)) b = none := fun b hb => (f3 b hb).1.1
  have hin' := hin s3 (upd H2 D (o0 D)) s3.heap.objs.size cl fp it D
  generalize upd H2 D (o0 D) = H3 at I3 I4 pg pt nn q hin' f3
  have t4 : tn 0 (pushCells (s3.heap.push { cls := .type "dict", data := .dict #[] }) scope.names) := T.keep _ _ _ t3 fun b _ o eo => pushCells_keeps _ _ _ _ (Heap.get?_push_of_some _ eo)
  show codeAny _ _ (.compStart e 0 (.ref it) (.ref D) (compEnvC scope cl s3.heap.objs.size X.env)) (compPost (model X.prog X.w) X.A X.xe use Qf (.ref D) s3.heap.objs.size) { s3 with heap := pushCells (s3.heap.push { cls := .type "dict", data := .dict #[] }) scope.names }
  have lp : codeAny (model X.prog X.w) X.A (.compLoop e 0 (.ref it) (.ref D) (compEnvC scope cl s3.heap.objs.size X.env)) (compPost (model X.prog X.w) X.A X.xe use Qf (.ref D) s3.heap.objs.size) { s3 with heap := pushCells (s3.heap.push { cls := .type "dict", data := .dict #[] }) scope.names } := by
    refine loop_run (X := X.blk s3 H3 scope (compEnvC scope cl s3.heap.objs.size X.env) fp) (pins := []) (iter := iter) (wi := ws) rfl hc pg pt T (fun {σ' H' s'} I' n b hb => ?_) (hq ..) (hA ..) (hden ..) (hd ..) sub hin' (fun H' s' I' qq => ?_) I4 t4 nn q
    · have z := I'.ok.exf b hb
      exact ⟨n b hb, z.1, I'.ok.exfs b hb, .inl hb, fun x c ec => z.2 x c ec, fun p hp => absurd (show p ∈ ([] : List (Addr × Obj)) ++ [] from hp) (by simp)⟩
    · have I7 : Inv X pins σ H' s' := I3.call' (ch := fp) I'.os I'.base I'.hok I'.bare fun b hb => by
        obtain ⟨_, z1, z2, z3, z4, z5⟩ := (f3 b hb).1
        exact ⟨z3, z1, z4, z5⟩
      obtain ⟨m, hm, _⟩ := I'.loc
      exact hRR D s3.heap.objs.size s' m H' I7 qq hm (I3.fpOk (Nat.le_refl _) I'.free)
  exact hstart it D _ _ _ lp (T.self X.A 0 _ _ _ t4 lp)
/-- [elt for .. for ..] -/
theorem pe_lcs {elt : Expr} {c : Cl} {cs : List Cl} {scope : Scope} {own : List (Str × Nat)} {pos : Pos} {te : TE} (hc : X.calm = true) (hN : X.N.Nodup) (hi : PI X c.tg c.iter c.wi) (ok : BlkOk X.N X.env.scope scope own)
    (hg : ∀ (s : Shared) (H : Hp) (C : Addr) (cl : List (Str × Addr)) (fp : List Addr), PG (X.blk s H scope (compEnvC scope cl C X.env) fp) c.tg c.g) (ht : ∀ (s : Shared) (H : Hp) (C : Addr) (cl : List (Str × Addr)) (fp : List Addr), PTs (X.blk s H scope (compEnvC scope cl C X.env) fp) c.ifs c.tt)
    (hcs : ∀ (s : Shared) (H : Hp) (C : Addr) (cl : List (Str × Addr)) (fp : List Addr), ∀ c' ∈ cs, ClOk (X.blk s H scope (compEnvC scope cl C X.env) fp) c') (hch : Chain (c :: cs)) (hw : c.ws = own.map (·.2))
    (he : ∀ (s : Shared) (H : Hp) (C : Addr) (cl : List (Str × Addr)) (fp : List Addr), PE (X.blk s H scope (compEnvC scope cl C X.env) fp) elt te) (hs : ∀ x, foldedSetIterable c.iter X.env x = pure x) :
    PE X (.ListComp elt (c.c :: cs.map Cl.c) scope pos) (fun σ H Q => c.wi σ H fun J H1 => ∀ D, H1 D = none → tLoop c.g c.tt (own.map (·.2)) (tIn D te cs) J σ (upd H1 D (.lst [])) fun H' => Q (.ref D) H') := by
  refine ⟨fun pins s σ H Q I h => ?_⟩
  rw [eval_ListComp]
  refine core (o0 := fun _ => .lst []) (body := fun it D env => bodyAt (.ListComp elt (c.c :: cs.map Cl.c) scope pos) elt (c.c :: cs.map Cl.c) 1 (.ref D) env (.compLoop (.ListComp elt (c.c :: cs.map Cl.c) scope pos) 0 (.ref it) (.ref D) env)) (inn := fun D => tIn D te cs) (ws := innW cs) (gs := cs.map Cl.c)
    hc hN I hi ok hg ht hs rfl (fun s σ H P E I k => wpAny_newObj_type (k _ (I.laid (t' := s.toks) (fun b o eo => Heap.get?_push_of_some _ eo) (Nat.le_refl _) ⟨Nat.zero_le _, [], 0, .nil, Heap.get?_push_size _ rfl⟩) (by show _ < (s.heap.push _).objs.size; rw [Heap.size_push]; exact Nat.lt_succ_self _) fun b o eo => Heap.get?_push_of_some _ eo) (by show 0 ≤ sizeLine; decide))
    (fun it D env => turn_is rfl fun g hg' => ?_) (fun _ _ _ => rfl) (fun _ _ _ => rfl) (fun _ _ _ => rfl) (fun it D env s R a b => start_ok (g := c.c) rfl rfl a b) (by rw [← hw]; exact hch.1) (fun s0 H0 C cl fp it D ps s σ H Ny I q => in_run (X := X.blk s0 H0 scope (compEnvC scope cl C X.env) fp) rfl hc (he ..) cs 1 rfl (hcs s0 H0 C cl fp) hch.2 _ ps s σ H Ny I q) h fun D C s' m H' I' q hn f => ⟨m, hn, fun h'' sb => ?_⟩
  · cases cs with
    | nil => cases hg'
    | cons c2 cs => cases hg'; rfl
  · obtain ⟨f0, f1, f2, f3, f4, f5⟩ := f
    exact ⟨.ref D, H', I'.turned (t' := s'.toks) (fun b o hb eo => (sb.2 b hb).trans eo) f0 f1 f3 f4 f5, rfl, q⟩
/-- what an item is, put into the set at D: a tuple of texts -/
def tPut (P : Program) (w : World) (K : PySem.W.Frag) (te : TE) (D : Addr) : L2.St → Hp → (Hp → Prop) → Prop := fun σ H Nx => te σ H fun y H1 => ∃ (m : Tk.Mb) (M : List Tk.Mb), y = .ref m.1 ∧ H1 D = some (Tk.SetK P w D M) ∧ SqT K H1 m.1 (m.2.map V.str) ∧ (∀ m ∈ M, SqT K H1 m.1 (m.2.map V.str)) ∧
  (m.2 ∉ M.map (·.2) → M.length + 1 < 64) ∧ ∀ M', (m.2 ∈ M.map (·.2) → M' = M) → (m.2 ∉ M.map (·.2) → M'.Perm (m :: M)) → Nx (upd H1 D (Tk.SetK P w D M'))
theorem pe_setc {elt tg iter : Expr} {ifs : List Expr} {scope : Scope} {own : List (Str × Nat)} {pos : Pos} {wi : TI} {g : TG} {tt : TT} {te : TE} (hc : X.calm = true) (hu : X.A.units + 8 < cLine) (hN : X.N.Nodup) (hi : PI X tg iter wi) (ok : BlkOk X.N X.env.scope scope own)
    (hg : ∀ (s : Shared) (H : Hp) (C : Addr) (cl : List (Str × Addr)) (fp : List Addr), PG (X.blk s H scope (compEnvC scope cl C X.env) fp) tg g) (ht : ∀ (s : Shared) (H : Hp) (C : Addr) (cl : List (Str × Addr)) (fp : List Addr), PTs (X.blk s H scope (compEnvC scope cl C X.env) fp) ifs tt)
    (he : ∀ (s : Shared) (H : Hp) (C : Addr) (cl : List (Str × Addr)) (fp : List Addr), PE (X.blk s H scope (compEnvC scope cl C X.env) fp) elt te) (hs : ∀ x, foldedSetIterable iter X.env x = pure x) :
    PE X (.SetComp elt [pl tg iter ifs] scope pos) (fun σ H Q => wi σ H fun J H1 => ∀ D, H1 D = none → tLoop g tt (own.map (·.2)) (tPut X.prog X.w X.K te D) J σ (upd H1 D (Tk.SetK X.prog X.w D [])) fun H' => Q (.ref D) H') := by
  refine ⟨fun pins s σ H Q I h => ?_⟩
  rw [PpSet.eval_SetComp]
  refine core (o0 := fun D => Tk.SetK X.prog X.w D []) (body := fun it D env => do
      (do let v ← eval elt env; standAt elt.pos; let _ ← call (.builtin "set.add") [.ref D, v])
      again (.compLoop (.SetComp elt [pl tg iter ifs] scope pos) 0 (.ref it) (.ref D) env)) (inn := fun D => tPut X.prog X.w X.K te D) (ws := []) (gs := [])
    hc hN I hi ok hg ht hs rfl (fun s σ H P E I k => PpSet.newSet_ok (k _ (I.laid (t' := s.toks) (fun b o eo => Heap.get?_push_of_some _ eo) (Nat.le_refl _) (Tk.setK_new Tk.st_fresh)) (by show _ < (s.heap.push _).objs.size; rw [Heap.size_push]; exact Nat.lt_succ_self _) fun b o eo => Heap.get?_push_of_some _ eo))
    (fun it D env => turn_set) (fun _ _ _ => rfl) (fun _ _ _ => rfl) (fun _ _ _ => rfl) (fun it D env s R a b => PpSet.codeAny_compStart_set a b) (fun i z => nomatch z) (fun s0 H0 C cl fp it D ps s σ H Ny I q => ?_) h fun D C s' m H' I' q hn f => ⟨m, hn, fun h'' sb => ?_⟩
  · refine wpAny_bind (wpAny_bind (thnF ((he s0 H0 C cl fp).run ps s σ H _ I q) fun z s1 hr => ?_))
    obtain ⟨y, H1, I1, r1, m, M, rfl, a1, a2, a3, a4, ny⟩ := hr
    cases r1
    exact wpAny_bind (wpAny_standAt (wpAny_bind (Tk.addK_ok (X := X.blk s0 H0 scope (compEnvC scope cl C X.env) fp) I1 a1 a2 a3 hu a4 fun s2 M' I2 b1 b2 => wpAny_pure (wpAny_pure ⟨rfl, _, I2, ny M' b1 b2⟩))))
  · obtain ⟨f0, f1, f2, f3, f4, f5⟩ := f
    exact ⟨.ref D, H', I'.turned (t' := s'.toks) (fun b o hb eo => (sb.2 b hb).trans eo) f0 f1 f3 f4 f5, rfl, q⟩
end
end Cn
set_option Elab.async false
set_option linter.all false
set_option maxRecDepth 100000
set_option maxHeartbeats 4000000
/-! comprehensions of many fors, sorted texts and sorted sets of tuples of texts, over data -/
namespace Tk
open PySem PySem.Spec PyProof.Rows L2
/-- a sorted list is the one that stands in strict order -/
theorem asc_uniq {α : Type} {lt : α → α → Bool} : ∀ {l ms : List α}, l.Perm ms → l.Pairwise (fun a b => lt b a = false) → ms.Pairwise (fun a b => lt a b = true) → l = ms
  | [], ms, h, _, _ => (List.nil_perm.mp h).symm
  | a :: l, [], h, _, _ => absurd h.length_eq (by simp)
  | a :: l, m :: ms, h, p, q => by
    have e : a = m := by
      refine Classical.byContradiction fun ne => ?_
      have ha : a ∈ ms := by
        rcases List.mem_cons.mp (h.mem_iff.mp (.head _)) with z | z
        · exact absurd z ne
        · exact z
      have hm : m ∈ l := by
        rcases List.mem_cons.mp (h.symm.mem_iff.mp (.head _)) with z | z
        · exact absurd z.symm ne
        · exact z
      have l1 := (List.pairwise_cons.mp p).1 m hm
      rw [(List.pairwise_cons.mp q).1 a ha] at l1
      cases l1
    subst e
    rw [asc_uniq (List.Perm.cons_inv h) (List.pairwise_cons.mp p).2 (List.pairwise_cons.mp q).2]
def ltS (a b : Str) : Bool := PySem.W.dataLt (.str a) (.str b)
def ltK (a b : List Str) : Bool := PySem.W.dataLt (enc a) (enc b)
theorem ltK_of {a b : List Str} (h : leK a b = true) : ltK b a = false := by
  have : leK a b = !ltK b a := rfl
  rw [this] at h
  simpa using h
section
variable {P : Program} {w : World} {A : Around} {E : Value → Shared → Prop} {s : Shared}
theorem collect_tup {l : Addr} {vs : List Value} {Q : List Value → Shared → Prop} (hl : s.heap.IsTuple l vs.toArray) (hz : vs.length ≤ sizeLine) (q : Q vs { s with heap := (s.heap.push (seqObj "list" #[] 0)).update s.heap.objs.size (Obj.mapSeq (· ++ vs.toArray)) }) : wpAny (model P w) A (collect (.ref l)) Q E s := by
  obtain ⟨o, ho, hc, n, hd⟩ := id hl
  have new : (s.heap.push (seqObj "list" #[] 0)).get? s.heap.objs.size = some (seqObj "list" #[] 0) := Heap.get?_push_size _ rfl
  have old : (s.heap.push (seqObj "list" #[] 0)).get? l = some o := Heap.get?_push_of_some _ ho
  unfold collect
  refine wpAny_bind (wpAny_runValue (codeAny_builtin entry_proto_collect' ?_))
  show wpAny _ _ (do again (.builtin "list.__iadd__" ⟨[← newList [], .ref l], []⟩)) _ _ s
  refine wpAny_bind (wpAny_newList (wpAny_pure ⟨Code.quiet_builtin _ (by decide +kernel), codeAny_builtin entry_list_iadd' ?_⟩))
  show wpAny _ _ (Builtin.List.listExtendWith (.ref s.heap.objs.size) (.ref l) (.ref s.heap.objs.size)) _ _ { s with heap := s.heap.push (seqObj "list" #[] 0) }
  unfold Builtin.List.listExtendWith
  have ty : (Value.type "tuple" == Value.type "tuple") = true := by rfl
  refine wpAny_bind (wpAny_typeOf (T := "tuple") ⟨o, old, hc⟩ ?_)
  rw [if_pos (by rw [ty]; simp)]
  refine wpAny_bind (listItems_at old hd (wpAny_bind (listItems_at (xs := #[]) (n := 0) new rfl ?_)))
  rw [if_neg (by simp)]
  refine wpAny_bind (listUpdate_at (xs := #[]) (n := 0) new rfl (wpAny_pure ?_) (Nat.zero_le _) (by show (#[] ++ vs.toArray).size ≤ sizeLine + 1; simp only [Array.size_append, List.size_toArray, List.length_nil]; omega))
  show wpAny (model P w) A (do
      let o ← load s.heap.objs.size
      match o.data with
      | .seq xs _ => pure xs.toList
      | _ => unsupported "internal:collect") Q E _
  refine wpAny_bind (wpAny_load (get?_update_seq new _) ?_)
  show wpAny _ _ (pure ((#[] : Array Value) ++ vs.toArray).toList) Q E _
  rw [show ((#[] : Array Value) ++ vs.toArray).toList = vs by simp]
  exact wpAny_pure q
theorem sorted_txt {l : Addr} {vs : List Value} {zs : List Str} {Q : Value → Shared → Prop} (hl : s.heap.IsTuple l vs.toArray) (hv : Vals (zs.map V.str) vs) (hz : zs.length ≤ 1000) (hu : A.units + 16 < cLine)
    (q : ∀ h' p (out : List Value) (c : Nat), (∀ b o, s.heap.get? b = some o → h'.get? b = some o) → s.heap.objs.size ≤ p → h'.get? p = some (seqObj "list" out.toArray c) → Vals ((zs.mergeSort fun a b => !ltS b a).map V.str) out → Q (.ref p) { s with heap := h' }) : wpAny (model P w) A (call (.builtin "sorted") [.ref l]) Q E s := by
  have len : vs.length = zs.length := by have := hv.length; simpa using this.symm
  have lz : vs.length ≤ sizeLine := by rw [len, sizeLine_eq]; omega
  have each : ∀ {zs : List Str} {vs : List Value}, Vals (zs.map V.str) vs → PySem.W.EachIs (fun v x => ∃ t, v = Value.str x t) vs zs := by
    intro zs
    induction zs with
    | nil => intro vs h; cases h; exact .nil
    | cons z zs ih => intro vs h; cases h with | cons r t => exact .cons r (ih t)
  have back : ∀ {zs : List Str} {vs : List Value}, PySem.W.EachIs (fun v x => ∃ t, v = Value.str x t) vs zs → Vals (zs.map V.str) vs := by
    intro zs
    induction zs with
    | nil => intro vs h; cases h; exact .nil
    | cons z zs ih => intro vs h; cases h with | cons r t => exact .cons r (ih t)
  refine Calls.call_function_entry kind_sorted plain_sorted entry_sorted (args_sorted1 _) ?_
  unfold Builtin.«sorted»
  refine wpAny_bind (m := checkCount "sorted" 1 1 _) (wpAny_pure (wpAny_bind (collect_tup (A := A.in1) hl lz (wpAny_bind (wpAny_newList ?_ lz)))))
  have kk : ∀ b u, s.heap.get? b = some u → (((s.heap.push (seqObj "list" #[] 0)).update s.heap.objs.size (Obj.mapSeq (· ++ vs.toArray))).push (seqObj "list" vs.toArray 0)).get? b = some u := fun b u e =>
    Heap.get?_push_of_some _ ((Heap.get?_update_ne _ _ _ _ (Nat.ne_of_lt (Heap.lt_size e))).trans (Heap.get?_push_of_some _ e))
  have sz : s.heap.objs.size ≤ ((s.heap.push (seqObj "list" #[] 0)).update s.heap.objs.size (Obj.mapSeq (· ++ vs.toArray))).objs.size := by rw [Heap.size_update, size_push']; exact Nat.le_succ _
  show wpAny _ _ _ _ _ { s with heap := ((s.heap.push (seqObj "list" #[] 0)).update s.heap.objs.size (Obj.mapSeq (· ++ vs.toArray))).push (seqObj "list" vs.toArray 0) }
  generalize (s.heap.push (seqObj "list" #[] 0)).update s.heap.objs.size (Obj.mapSeq (· ++ vs.toArray)) = h1 at kk sz ⊢
  have hL : (h1.push (seqObj "list" vs.toArray 0)).get? h1.objs.size = some (seqObj "list" vs.toArray 0) := Heap.get?_push_size _ rfl
  have reads : ∀ {zs : List Str} {vs : List Value}, PySem.W.EachIs (fun v x => ∃ t, v = Value.str x t) vs zs → PySem.W.EachIs (fun v x => ∃ as, Reads (h1.push (seqObj "list" vs.toArray 0)) v (PyData.str x) as ∧ h1.objs.size ∉ as) vs zs := fun e => e.mono fun v x ⟨t, e⟩ => ⟨[], by rw [e]; exact .str x t, by simp⟩
  refine wpAny_bind (wpAny_holding (PySem.W.list_sort_data (s := { s with heap := h1.push (seqObj "list" vs.toArray 0) }) (enc := PyData.str) (bs := zs) (R := fun v x => ∃ t, v = Value.str x t) hL (each hv) (reads (each hv)) (PySem.W.AllAlike.of fun b b' => ?_) (.inr fun d hd => ?_) (by rw [sizeLine_eq]; omega) (fun b hb => ?_) fun out z1 z2 => ?_))
  · simp [PySem.W.alike]
  · obtain ⟨b, hb, rfl⟩ := List.mem_map.mp hd
    exact ⟨(fun e => by cases e), fun xs e => by cases e⟩
  · show A.in1.units + 1 + (PyData.str b).depth < cLine
    rw [PyData.depth]
    show A.units + 1 + 1 + 0 < cLine
    omega
  · obtain ⟨c, hc⟩ := sortedHeap_at (vs := vs) (out := out.toArray) hL
    refine wpAny_pure ⟨_, rfl, q _ h1.objs.size out c (fun b u e => ?_) sz hc (back z2)⟩
    have lt : b < h1.objs.size := Nat.lt_of_lt_of_le (Heap.lt_size e) sz
    show (sortedHeap (h1.push _) h1.objs.size _ out.toArray).get? b = some u
    rw [sortedHeap_old (Nat.ne_of_lt lt) (by rw [size_push']; exact Nat.lt_succ_of_lt lt)]
    exact kk b u e
end
theorem srt_uniq {zs ms : List Str} (h1 : ms.Perm zs) (h2 : ms.Pairwise fun a b => ltS a b = true) : (zs.mergeSort fun a b => !ltS b a) = ms := by
  refine asc_uniq (lt := ltS) ((List.mergeSort_perm _ _).trans h1.symm) ?_ h2
  have := List.pairwise_mergeSort (le := fun a b : Str => !ltS b a) (fun a b c h1 h2 => ?_) (fun a b => ?_) zs
  · exact this.imp fun h => by simpa using h
  · have e : ∀ x y, ltS x y = lexLt itemOrd (PySem.W.keyToks (.str x)) (PySem.W.keyToks (.str y)) := fun _ _ => rfl
    simp only [e, Bool.not_eq_true'] at h1 h2 ⊢
    cases h : lexLt itemOrd (PySem.W.keyToks (.str c)) (PySem.W.keyToks (.str a)) with
    | false => rfl
    | true =>
      rcases lex_negTrans _ (PySem.W.keyToks (.str b)) _ h with z | z
      · rw [z] at h2; cases h2
      · rw [z] at h1; cases h1
  · have e : ∀ x y, ltS x y = lexLt itemOrd (PySem.W.keyToks (.str x)) (PySem.W.keyToks (.str y)) := fun _ _ => rfl
    rw [e, e]
    cases h1 : lexLt itemOrd (PySem.W.keyToks (.str b)) (PySem.W.keyToks (.str a)) with
    | false => rfl
    | true =>
      cases h2 : lexLt itemOrd (PySem.W.keyToks (.str a)) (PySem.W.keyToks (.str b)) with
      | false => rfl
      | true =>
        have := lex_trans _ _ _ h1 h2
        rw [lex_irrefl] at this
        cases this
/-- sorted(t), t a tuple of texts -/
def rSortX (K : PySem.W.Frag) : List V → Hp → VK → Prop := fun vs H Q => ∃ (a : Addr) (zs : List Str), vs = [V.ref a] ∧ SqT K H a (zs.map V.str) ∧ zs.length ≤ 1000 ∧ ∀ p, H p = none → Q (.ref p) (upd H p (.lst ((zs.mergeSort fun a b => !ltS b a).map V.str)))
theorem cr_sortX {X : Cx} (hu : X.A.units + 64 < cLine) : CallR X (.builtin "sorted") (rSortX X.K) := by
  intro pins s σ H vs us Q I r h
  obtain ⟨a, zs, rfl, hq, hz, q⟩ := h
  rw [Vals.ref1 r]
  obtain ⟨its, rv, ht, _⟩ := I.tuple hq
  refine sorted_txt (show s.heap.IsTuple a its.toArray from ht) rv hz (by omega) fun h' p out c k hp hg hv => ?_
  have len : ((zs.mergeSort fun a b => !ltS b a).map V.str).length ≤ sizeLine := by rw [List.length_map, List.length_mergeSort, sizeLine_eq]; omega
  exact ⟨.ref p, upd H p (.lst ((zs.mergeSort fun a b => !ltS b a).map V.str)), I.laid (t' := s.toks) k hp ⟨len, out, c, hv, hg⟩, rfl, q p (I.hok.fresh hp)⟩
end Tk
set_option Elab.async false
set_option linter.all false
set_option maxRecDepth 100000
set_option maxHeartbeats 4000000
namespace Dl
open PySem PySem.Spec PyProof.Rows L2 Cn
def txts (zs : List Str) : List PyData := zs.map .str
theorem dn_txts {K : PySem.W.Frag} {S : AS} {H : Hp} : ∀ {xs : List V} {zs : List Str}, DnAll K S H xs (txts zs) → xs = zs.map V.str
  | _, [], h => by cases h; rfl
  | _, z :: zs, h => by
    cases h with
    | cons h1 h2 => cases h1; rw [dn_txts h2]; rfl
theorem txts_dn {K : PySem.W.Frag} {S : AS} {H : Hp} : ∀ {zs : List Str}, DnAll K S H (zs.map V.str) (txts zs)
  | [] => .nil
  | _ :: _ => .cons (.str _) txts_dn
section
variable {F : Fm} {X : Cx} {δ : DE} {k : PyData → Prop} {e a b : Expr} {pos p : Pos} {x : Str} {ds : List PyData}
/-- sorted(t), t a tuple of texts -/
theorem vd_sortedX {zs ms : List Str} (hu : X.A.units + 64 < cLine) (hm : X.mg "sorted" = none) (ha : VD F X a δ (.tuple (txts zs))) (h1 : ms.Perm zs) (h2 : ms.Pairwise fun a b => Tk.ltS a b = true) (hz : zs.length ≤ 1000) (hg : Gl X "sorted" := by rfl) (he : starEach [a] X.env = [(false, eval a X.env)] := by rfl) : VD F X (.Call (.Name "sorted" p) [a] [] pos) δ (.list (txts ms)) :=
  ve_callB (Tk.cr_sortX hu) hm (by decide +kernel) (VA.to (vl_cons ha vl_nil he) ⟨_, fun S H vs Q hS n q => by
    cases n with
    | cons n1 n2 =>
      cases n2
      cases n1 with
      | tup sq al =>
        have e := dn_txts al
        subst e
        refine ⟨_, zs, rfl, sq.sq, hz, fun l hl => ?_⟩
        rw [Tk.srt_uniq h1 h2]
        exact q _ _ (.new hl) (.lst ⟨fun z => hS _ z hl, upd_same⟩ txts_dn), rfl⟩) hg (by decide) (by decide) he rfl
end
/-! ### a comprehension of many fors -/
/-- a frame in which D, too, may change -/
def Fm.mw (F : Fm) (D : Addr) : Fm := ⟨fun a => F.S a ∨ a = D, fun a o => F.C a o ∨ a = D, F.J, fun a o z => z.elim (fun c => (F.sub a o c).imp .inl id) fun e => .inl (.inr e), F.mono⟩
structure Fo where
  x : Str
  px : Pos
  j : Nat
  iter : Expr
  ds : List PyData
def freeB (δ : DE) (ws : List Nat) : Bool := ws.all fun j => match δ[j]? with
  | some (some _) => false
  | _ => true
theorem free_at {δ : DE} {ws : List Nat} (h : freeB δ ws = true) {j : Nat} (hj : j ∈ ws) (s : Sl) : δ[j]? ≠ some (some s) := fun e => by
  have := List.all_eq_true.mp h j hj
  rw [e] at this
  cases this
theorem wipe_at {σ : L2.St} : ∀ {ws : List Nat} {i : Nat}, (wipe σ ws)[i]? = if i ∈ ws then (σ[i]?).map fun _ => none else σ[i]?
  | [], i => by simp [wipe]
  | w :: ws, i => by
    unfold wipe
    rw [List.getElem?_set]
    by_cases e : w = i
    · subst e
      rw [if_pos rfl, wipe_length, if_pos (List.mem_cons_self)]
      by_cases hl : w < σ.length
      · rw [if_pos hl, List.getElem?_eq_getElem hl]; rfl
      · rw [if_neg hl, List.getElem?_eq_none (by omega)]; rfl
    · rw [if_neg e, wipe_at (ws := ws)]
      by_cases h : i ∈ ws
      · rw [if_pos h, if_pos (List.mem_cons_of_mem _ h)]
      · rw [if_neg h, if_neg (by simp only [List.mem_cons, not_or]; exact ⟨fun z => e z.symm, h⟩)]
theorem wipe_set {σ : L2.St} {ws : List Nat} {j : Nat} {v : Option V} (h : j ∈ ws) : wipe ((wipe σ ws).set j v) ws = wipe σ ws := by
  refine List.ext_getElem? fun i => ?_
  rw [wipe_at, wipe_at]
  by_cases hi : i ∈ ws
  · rw [if_pos hi, if_pos hi, List.getElem?_set]
    by_cases e : j = i
    · subst e
      rw [if_pos rfl, wipe_length]
      by_cases hl : j < σ.length
      · rw [if_pos hl, List.getElem?_eq_getElem hl]; rfl
      · rw [if_neg hl, List.getElem?_eq_none (by omega)]
    · rw [if_neg e, wipe_at, if_pos hi]
      try (cases σ[i]? <;> rfl)
  · have e : j ≠ i := fun z => hi (z ▸ h)
    rw [if_neg hi, if_neg hi, List.getElem?_set_ne e, wipe_at, if_neg hi]
theorem std_wipe {K : PySem.W.Frag} {S : AS} {H : Hp} {σ : L2.St} {δ : DE} {ws : List Nat} (h : StD K S H σ δ) (hf : freeB δ ws = true) : StD K S H (wipe σ ws) δ :=
  ⟨(wipe_length σ ws).trans h.len, fun i s e => by
    obtain ⟨v, h1, h2⟩ := h.at_ i s e
    refine ⟨v, ?_, h2⟩
    rw [wipe_at, if_neg fun z => free_at hf z s e]
    exact h1⟩
section
variable {F : Fm} {X : Cx} {scope : Scope} {elt : Expr}
/-- what the fors come to, one list behind the other -/
def VCs (F : Fm) (X : Cx) (scope : Scope) (elt : Expr) : List Fo → DE → List PyData → Prop
  | [], δ, ys => ∃ y, ys = [y] ∧ ∀ (E : Addr) (s : Shared) (H : Hp) (C : Addr) (cl : List (Str × Addr)) (fp : List Addr), VD (F.more E) (X.blk s H scope (compEnvC scope cl C X.env) fp) elt δ y
  | f :: r, δ, ys => (∃ d, seqOf d = some f.ds ∧ ∀ (E : Addr) (s : Shared) (H : Hp) (C : Addr) (cl : List (Str × Addr)) (fp : List Addr), VD (F.more E) (X.blk s H scope (compEnvC scope cl C X.env) fp) f.iter δ d) ∧
      ∃ g : PyData → List PyData, ys = f.ds.flatMap g ∧ freeB δ ((f :: r).map Fo.j) = true ∧ ∀ d ∈ f.ds, VCs F X scope elt r (δ.set f.j (some (.dat d))) (g d)
def tElt (X : Cx) (scope : Scope) (elt : Expr) : TE := fun σ H Q => ∀ (s : Shared) (H' : Hp) (C : Addr) (cl : List (Str × Addr)) (fp : List Addr), semE (X.blk s H' scope (compEnvC scope cl C X.env) fp) elt σ H Q
def clOf (X : Cx) (scope : Scope) : List Fo → List Cl
  | [] => []
  | f :: r => ⟨.Name f.x f.px, f.iter, [], fun σ H R => ∀ (s : Shared) (H' : Hp) (C : Addr) (cl : List (Str × Addr)) (fp : List Addr), semI (X.blk s H' scope (compEnvC scope cl C X.env) fp) (.Name f.x f.px) f.iter σ H R, gName f.j, tYes, (f :: r).map Fo.j⟩ :: clOf X scope r
/-- what stands while the list at D is made -/
structure Mk (F : Fm) (K : PySem.W.Frag) (D : Addr) (H : Hp) (zs : List PyData) : Prop where
  ok : F.ok H
  ex : ∃ acc, H D = some (.lst acc) ∧ DnAll K (F.more D).S H acc zs
theorem Mk.same {K : PySem.W.Frag} {D : Addr} {H H' : Hp} {zs : List PyData} (m : Mk F K D H zs) (nD : ¬ F.S D) (e : Xt F.C H H') (o : F.ok H') : Mk F K D H' zs := by
  obtain ⟨acc, h1, h2⟩ := m.ex
  exact ⟨o, acc, e.k D _ (fun z => (F.sub _ _ z).elim nD nTl) h1, Dn.monoAll (S := (F.more D).S) (fun a o z => (F.sub a o z).imp .inl id) e _ _ h2⟩
theorem Mk.mok {K : PySem.W.Frag} {D : Addr} {H : Hp} {zs : List PyData} (m : Mk F K D H zs) : (F.more D).ok H := by
  obtain ⟨acc, h1, _⟩ := m.ex
  exact m.ok.more (by rw [h1]; exact fun z => by cases z)
/-- any sequence is walked, though D changes -/
theorem vix {D : Addr} {tg e : Expr} {δ : DE} {d : PyData} {ds : List PyData} (he : VD (F.more D) X e δ d) (hd : seqOf d = some ds) (σ : L2.St) (H : Hp) (R : It → Hp → Prop) (o : (F.more D).ok H) (s : StD X.K (F.more D).S H σ δ)
    (q : ∀ (J : It) (H' : Hp), Xt F.C H H' → (F.more D).ok H' → Walks (F.mw D) X.K J ds H' → R J H') : semI X tg e σ H R := by
  cases d with
  | list xs =>
    cases hd
    refine (pi_list (pe_sem X e)).sem (he σ H _ o s fun v H1 d' e1 o1 n1 kd => ?_)
    subst kd
    cases n1 with
    | @lst a xs _ sq al =>
      have sq' : LsN X.K (F.mw D).S H1 a xs := sq
      refine ⟨a, rfl, ⟨xs, sq.sq⟩, q _ H1 e1 o1 ⟨fun i H' e2 hi => ?_, fun S' hC hS i H' x H3 e2 y => ?_, fun H' e2 => ⟨xs, (sq'.mono (F.mw D).sub e2).sq, Nat.le_of_eq al.length⟩⟩⟩
      · have hx : i < xs.length := by rw [al.length]; exact hi
        exact ⟨xs, xs[i], (sq'.mono (F.mw D).sub e2).sq, List.getElem?_eq_getElem hx⟩
      · obtain ⟨rfl, y⟩ := y
        refine ⟨.refl _, fun d hd => ?_⟩
        obtain ⟨v, h1, h2⟩ := (Dn.monoAll hC e2 _ _ (Dn.lessAll hS _ _ al)).get hd
        cases (y xs ((sq'.mono (F.mw D).sub e2).sq)).symm.trans h1
        exact h2
  | tuple xs =>
    cases hd
    refine (pi_tup (pe_sem X e)).sem (he σ H _ o s fun v H1 d' e1 o1 n1 kd => ?_)
    subst kd
    cases n1 with
    | @tup a xs _ sq al =>
      have sq' : TpN X.K (F.mw D).S H1 a xs := sq
      refine ⟨a, rfl, ⟨xs, sq.sq⟩, q _ H1 e1 o1 ⟨fun i H' e2 hi => ?_, fun S' hC hS i H' x H3 e2 y => ?_, fun H' e2 => ⟨xs, (sq'.mono (F.mw D).sub e2).sq, Nat.le_of_eq al.length⟩⟩⟩
      · have hx : i < xs.length := by rw [al.length]; exact hi
        exact ⟨xs, xs[i], (sq'.mono (F.mw D).sub e2).sq, List.getElem?_eq_getElem hx⟩
      · obtain ⟨rfl, y⟩ := y
        refine ⟨.refl _, fun d hd => ?_⟩
        obtain ⟨v, h1, h2⟩ := (Dn.monoAll hC e2 _ _ (Dn.lessAll hS _ _ al)).get hd
        cases (y xs ((sq'.mono (F.mw D).sub e2).sq)).symm.trans h1
        exact h2
  | none => cases hd
  | bool _ => cases hd
  | int _ => cases hd
  | str _ => cases hd
  | dict _ => cases hd
theorem mw_sub {D : Addr} : ∀ a o, (F.mw D).C a o → (F.more D).S a ∨ Tb o := (F.mw D).sub
/-- the turns of one for -/
theorem loop_vcs {D : Addr} {f : Fo} {r : List Fo} {δ : DE} {g : PyData → List PyData} {J : It} {σ : L2.St} {H0 : Hp} {zs : List PyData} {Nx : Hp → Prop} (nD : ¬ F.S D) (hf : freeB δ ((f :: r).map Fo.j) = true) (m0 : Mk F X.K D H0 zs) (s0 : StD X.K (F.more D).S H0 σ δ) (wk : Walks (F.mw D) X.K J f.ds H0)
    (hl : zs.length + (f.ds.flatMap g).length ≤ 100000)
    (ih : ∀ d ∈ f.ds, ∀ (σ : L2.St) (H : Hp) (ws : List PyData) (Ny : Hp → Prop), Mk F X.K D H ws → StD X.K (F.more D).S H σ (δ.set f.j (some (.dat d))) → ws.length + (g d).length ≤ 100000 → (∀ H', Xt (F.mw D).C H H' → Mk F X.K D H' (ws ++ g d) → Ny H') → tIn D (tElt X scope elt) (clOf X scope r) σ H Ny)
    (fin : ∀ H', Xt (F.mw D).C H0 H' → Mk F X.K D H' (zs ++ f.ds.flatMap g) → Nx H') : tLoop (gName f.j) tYes ((f :: r).map Fo.j) (tIn D (tElt X scope elt) (clOf X scope r)) J σ H0 Nx := by
  refine ⟨fun i m H => m = f.ds.length - i ∧ i ≤ f.ds.length ∧ Xt (F.mw D).C H0 H ∧ Mk F X.K D H (zs ++ (f.ds.take i).flatMap g), ⟨_, rfl, Nat.zero_le _, .refl _, by rw [List.take_zero]; simpa using m0⟩, ?_⟩
  rintro i m H ⟨rfl, hi, e1, mk⟩
  by_cases hlt : i < f.ds.length
  · refine .inr ⟨wk.go i H e1 hlt, fun H' => Xt (F.mw D).C H0 H' ∧ Mk F X.K D H' (zs ++ (f.ds.take (i + 1)).flatMap g), fun H' h => ⟨_, by omega, rfl, hlt, h⟩, fun x H2 hy => ?_⟩
    obtain ⟨e2, n2⟩ := wk.yld (F.more D).S mw_sub (fun a _ z => z) i H x H2 e1 hy
    have hd : f.ds[i]? = some f.ds[i] := List.getElem?_eq_getElem hlt
    have hm : f.ds[i] ∈ f.ds := List.getElem_mem hlt
    have tk : f.ds.take (i + 1) = f.ds.take i ++ [f.ds[i]] := by rw [List.take_add_one, hd]; rfl
    have mk2 : Mk F X.K D H2 (zs ++ (f.ds.take i).flatMap g) := mk.same nD e2.of0 (mk.ok.mono e2)
    have s2 : StD X.K (F.more D).S H2 σ δ := s0.mono mw_sub (e1.trans e2.of0)
    have len : ((f.ds.take (i + 1)).flatMap g).length ≤ (f.ds.flatMap g).length := by
      have : f.ds.flatMap g = (f.ds.take (i + 1)).flatMap g ++ (f.ds.drop (i + 1)).flatMap g := by rw [← List.flatMap_append, List.take_append_drop]
      rw [this, List.length_append]
      omega
    rw [tk, List.flatMap_append, List.length_append] at len
    have one : [f.ds[i]].flatMap g = g f.ds[i] := by simp
    rw [one] at len
    show wipe ((wipe σ _).set f.j (some x)) _ = _ ∧ tYes _ _ _
    refine ⟨wipe_set (by simp), ?_⟩
    simp only [tYes, if_true]
    refine ih _ hm _ H2 _ _ mk2 ((std_wipe s2 hf).setD f.j (n2 _ hd)) (by rw [List.length_append]; omega) fun H' e3 mk3 => ⟨(e1.trans e2.of0).trans e3, ?_⟩
    rw [tk, List.flatMap_append, one, ← List.append_assoc]
    exact mk3
  · have e : i = f.ds.length := by omega
    subst e
    rw [List.take_length] at mk
    exact .inl ⟨wk.stop H e1, fin H e1 mk⟩
theorem in_vcs {D : Addr} (nD : ¬ F.S D) (hsf : F.soft) : ∀ (cs : List Fo) (δ : DE) (ys : List PyData), VCs F X scope elt cs δ ys → ∀ (σ : L2.St) (H : Hp) (zs : List PyData) (Ny : Hp → Prop), Mk F X.K D H zs → StD X.K (F.more D).S H σ δ → zs.length + ys.length ≤ 100000 →
    (∀ H', Xt (F.mw D).C H H' → Mk F X.K D H' (zs ++ ys) → Ny H') → tIn D (tElt X scope elt) (clOf X scope cs) σ H Ny
  | [], δ, ys, ⟨y, ey, h⟩, σ, H, zs, Ny, mk, s, hl, q => by
    subst ey
    intro sh Hs C cl fp
    refine h D sh Hs C cl fp σ H _ mk.mok s fun v H1 d e1 o1 n1 kd => ?_
    subst kd
    have mk1 := mk.same nD e1 o1.less
    obtain ⟨acc, a1, a2⟩ := mk1.ex
    have la := a2.length
    have eu : Xt (fun a _ => (F.more D).S a) H1 (upd H1 D (.lst (acc ++ [v]))) := .put (.inl fun _ => .inr rfl)
    have hu : Xt (F.mw D).C H1 (upd H1 D (.lst (acc ++ [v]))) := .put (.inl fun _ => .inr rfl)
    refine ⟨acc, a1, Nat.lt_of_le_of_lt (show acc.length ≤ 100000 by rw [la]; omega) (by decide), q _ ((e1.mono fun _ _ z => .inl z).trans hu) ⟨?_, acc ++ [v], upd_same, DnAll.append (Dn.monoAll (S := (F.more D).S) (fun _ _ z => .inl z) eu _ _ a2) (.cons (Dn.mono (S := (F.more D).S) (fun _ _ z => .inl z) eu _ _ n1) .nil)⟩⟩
    refine Fm.ok.same hsf mk1.ok fun a u sa he => ?_
    have ne : a ≠ D := fun z => by
      subst z
      rcases sa with sa | sa
      · exact nD sa
      · rw [a1] at he
        exact sa acc (Option.some.inj he).symm
    rw [upd_ne ne]
    exact he
  | f :: r, δ, ys, ⟨⟨d, hd, hi⟩, g, ey, hf, hr⟩, σ, H, zs, Ny, mk, s, hl, q => by
    subst ey
    intro sh Hs C cl fp
    refine vix (hi D sh Hs C cl fp) hd σ H _ mk.mok s fun J H1 e1 o1 wk => ?_
    have mk1 := mk.same nD e1 o1.less
    exact loop_vcs nD hf mk1 (s.mono mw_sub (e1.mono fun _ _ z => .inl z)) wk hl (fun d' hd' σ H ws Ny m s l k => in_vcs nD hsf r _ _ (hr d' hd') σ H ws Ny m s l k) fun H' e2 m2 => q H' ((e1.mono fun _ _ z => .inl z).trans e2) m2
theorem clOf_c (X : Cx) (scope : Scope) : ∀ r : List Fo, (clOf X scope r).map Cl.c = r.map fun f => pl (.Name f.x f.px) f.iter []
  | [] => rfl
  | f :: r => by rw [List.map_cons, ← clOf_c X scope r]; rfl
theorem clOf_w (X : Cx) (scope : Scope) : ∀ r : List Fo, innW (clOf X scope r) = r.map Fo.j
  | [] => rfl
  | f :: r => rfl
theorem clOf_chain (X : Cx) (scope : Scope) : ∀ r : List Fo, Chain (clOf X scope r)
  | [] => trivial
  | f :: r => ⟨fun i hi => by rw [clOf_w] at hi; exact List.mem_cons_of_mem _ hi, clOf_chain X scope r⟩
theorem clOf_ok {X : Cx} {scope : Scope} : ∀ {r : List Fo}, (∀ f ∈ r, ∀ (s : Shared) (H : Hp) (C : Addr) (cl : List (Str × Addr)) (fp : List Addr), PG (X.blk s H scope (compEnvC scope cl C X.env) fp) (.Name f.x f.px) (gName f.j)) → (∀ f ∈ r, ∀ env x, foldedSetIterable f.iter env x = pure x) →
    ∀ (s : Shared) (H : Hp) (C : Addr) (cl : List (Str × Addr)) (fp : List Addr), ∀ c ∈ clOf X scope r, ClOk (X.blk s H scope (compEnvC scope cl C X.env) fp) c
  | [], _, _, _, _, _, _, _, c, h => nomatch h
  | f :: r, hg, hs, s, H, C, cl, fp, c, h => by
    rcases List.mem_cons.mp h with e | h
    · subst e
      exact ⟨⟨fun pins sh σ H' R I q => q s H C cl fp pins sh I⟩, hg f (.head _) s H C cl fp, pts_nil, fun x => hs f (.head _) _ x⟩
    · exact clOf_ok (fun f' h' => hg f' (.tail _ h')) (fun f' h' => hs f' (.tail _ h')) s H C cl fp c h
/-- [elt for x in .. for y in ..] -/
theorem vd_lcs {δ : DE} {pos : Pos} {f : Fo} {r : List Fo} {g : PyData → List PyData} {d0 : PyData} (hd0 : seqOf d0 = some f.ds) (hi : VD F X f.iter δ d0) (hv : ∀ d ∈ f.ds, VCs F X scope elt r (δ.set f.j (some (.dat d))) (g d)) (hf : freeB δ ((f :: r).map Fo.j) = true) (hl : (f.ds.flatMap g).length ≤ 100000)
    (hN : X.N.Nodup) (ok : BlkOk X.N X.env.scope scope ((f :: r).map fun f => (f.x, f.j))) (hg : ∀ f' ∈ f :: r, ∀ (s : Shared) (H : Hp) (C : Addr) (cl : List (Str × Addr)) (fp : List Addr), PG (X.blk s H scope (compEnvC scope cl C X.env) fp) (.Name f'.x f'.px) (gName f'.j))
    (hs : ∀ f' ∈ f :: r, ∀ env x, foldedSetIterable f'.iter env x = pure x) (hc : X.calm = true := by rfl) (hsf : F.soft := by first | exact Fm.soft_pure | assumption | exact HasRow.soft (by assumption)) : VD F X (.ListComp elt ((f :: r).map fun f => pl (.Name f.x f.px) f.iter []) scope pos) δ (.list (f.ds.flatMap g)) := fun σ H Q o s q => by
  have e : (f :: r).map (fun f => pl (.Name f.x f.px) f.iter []) = (⟨.Name f.x f.px, f.iter, [], semI X (.Name f.x f.px) f.iter, gName f.j, tYes, (f :: r).map Fo.j⟩ : Cl).c :: (clOf X scope r).map Cl.c := by rw [clOf_c]; rfl
  have ew : ((f :: r).map fun f => (f.x, f.j)).map (·.2) = (f :: r).map Fo.j := by rw [List.map_map]; rfl
  rw [e]
  refine (pe_lcs (te := tElt X scope elt) hc hN (pi_sem X _ f.iter) ok (hg f (.head _)) (fun _ _ _ _ _ => pts_nil) (clOf_ok (fun f' h' => hg f' (.tail _ h')) fun f' h' => hs f' (.tail _ h')) ⟨fun i hi => by rw [clOf_w] at hi; exact List.mem_cons_of_mem _ hi, clOf_chain X scope r⟩ ew.symm (fun s H C cl fp => ⟨fun pins sh σ H' Q I h => h s H C cl fp pins sh I⟩) (hs f (.head _) _)).sem ?_
  have hvi : VI F X (.Name f.x f.px) f.iter δ fun xs => xs = f.ds := by
    cases d0 with
    | list xs => cases hd0; exact vi_list (hi.to ⟨_, rfl, rfl⟩)
    | tuple xs => cases hd0; exact vi_tup (hi.to ⟨_, rfl, rfl⟩)
    | none => cases hd0
    | bool _ => cases hd0
    | int _ => cases hd0
    | str _ => cases hd0
    | dict _ => cases hd0
  refine hvi σ H _ o s fun J H1 ds e1 o1 wk kd D hD => ?_
  subst kd
  rw [ew]
  have nD : ¬ F.S D := o1.fresh hD
  have up : Xt F.C H1 (upd H1 D (.lst [])) := .new hD
  have back : ∀ {H'}, Xt (F.mw D).C (upd H1 D (.lst [])) H' → Xt F.C H1 H' := fun {H'} e2 => ⟨fun a u c h => by
    have ne : a ≠ D := fun z => by subst z; rw [hD] at h; cases h
    exact e2.k a u (fun z => z.elim c ne) (by rw [upd_ne ne]; exact h)⟩
  refine loop_vcs (F := F) nD hf ⟨o1.mono (.new hD), [], upd_same, .nil⟩ (((o.all s e1).less (T := (F.more D).S) fun a ha z => z.elim id fun e => absurd (e ▸ hD) ha).mono (fun a o z => (F.sub a o z).imp .inl id) up) ⟨fun i H' e2 h => wk.go i H' (back e2) h, fun S' hC hS i H' x H3 e2 y => wk.yld S' (fun a o z => hC a o (.inl z)) (fun a ha z => ?_) i H' x H3 (back e2) y, fun H' e2 => wk.stop H' (back e2)⟩
    (by simpa using hl) (fun d hd σ H ws Ny m s l k => in_vcs nD hsf r _ _ (hv d hd) σ H ws Ny m s l k) fun H' e2 m2 => ?_
  · have ne : a ≠ D := fun e => by subst e; exact ha hD
    exact (hS a (by rw [upd_ne ne]; exact ha) z).elim id fun e => absurd e ne
  · obtain ⟨acc, a1, a2⟩ := m2.ex
    exact q _ H' _ (e1.trans (back e2)) m2.ok (.lst ⟨nD, a1⟩ (by simpa using Dn.lessAll (T := F.S) (fun a _ z => .inl z) _ _ a2)) rfl
end
end Dl
set_option Elab.async false
set_option linter.all false
set_option maxRecDepth 100000
set_option maxHeartbeats 4000000
namespace Dl
open PySem PySem.Spec PyProof.Rows L2 Cn
theorem nodup_le {α : Type} [DecidableEq α] : ∀ {l m : List α}, l.Nodup → (∀ x ∈ l, x ∈ m) → l.length ≤ m.length
  | [], _, _, _ => Nat.zero_le _
  | a :: l, m, h, s => by
    have h1 : l.length ≤ (m.erase a).length := nodup_le (List.nodup_cons.mp h).2 fun x hx => (List.mem_erase_of_ne fun e => (List.nodup_cons.mp h).1 (by rw [← e]; exact hx)).mpr (s x (.tail _ hx))
    have h2 := List.length_erase_of_mem (s a (.head _))
    have h3 := List.length_pos_of_mem (s a (.head _))
    rw [List.length_cons]
    omega
theorem asc_nodup {K : List (List Str)} (h : K.Pairwise fun a b => Tk.ltK a b = true) : K.Nodup := h.imp fun z e => by
  subst e
  have e : ∀ x, Tk.ltK x x = lexLt itemOrd (PySem.W.keyToks (Tk.enc x)) (PySem.W.keyToks (Tk.enc x)) := fun _ => rfl
  rw [e, lex_irrefl] at z
  cases z
def tupK (k : List Str) : PyData := .tuple (txts k)
/-- what stands while the set at D is made -/
structure Ms (S : AS) (K : PySem.W.Frag) (P : Program) (w : World) (D : Addr) (H : Hp) (Ks : List (List Str)) : Prop where
  ok : (Fm.pure S).ok H
  ex : ∃ M : List Tk.Mb, H D = some (Tk.SetK P w D M) ∧ (∀ m ∈ M, Dn K ((Fm.pure S).more D).S H (.ref m.1) (tupK m.2)) ∧ (M.map (·.2)).Nodup ∧ ∀ k, k ∈ M.map (·.2) ↔ k ∈ Ks
theorem sq_tupK {K : PySem.W.Frag} {S : AS} {H : Hp} {a : Addr} {k : List Str} (h : Dn K S H (.ref a) (tupK k)) : SqT K H a (k.map V.str) := by
  cases h with
  | tup sq al =>
    have := dn_txts al
    subst this
    exact sq.sq
theorem Ms.same {S : AS} {K : PySem.W.Frag} {P : Program} {w : World} {D : Addr} {H H' : Hp} {Ks : List (List Str)} (m : Ms S K P w D H Ks) (e : Xt C0 H H') : Ms S K P w D H' Ks := by
  obtain ⟨M, h1, h2, h3, h4⟩ := m.ex
  exact ⟨m.ok.mono e, M, e.k D _ (fun z => z) h1, fun x hx => Dn.mono (C := C0) (fun _ _ z => z.elim) e _ _ (h2 x hx), h3, h4⟩
theorem Ms.mok {S : AS} {K : PySem.W.Frag} {P : Program} {w : World} {D : Addr} {H : Hp} {Ks : List (List Str)} (m : Ms S K P w D H Ks) : ((Fm.pure S).more D).ok H := by
  obtain ⟨M, h1, _⟩ := m.ex
  exact m.ok.more (by rw [h1]; exact fun z => by cases z)
section
variable {S : AS} {X : Cx} {δ : DE} {x : Str} {px p pos spos : Pos} {iter elt : Expr} {scope : Scope}
theorem loop_set {D : Addr} {j : Nat} {ds : List PyData} {kf : PyData → List Str} {Kr : List (List Str)} {J : It} {σ : L2.St} {H0 : Hp} {Nx : Hp → Prop} (nD : ¬ S D) (hf : freeB δ [j] = true) (m0 : Ms S X.K X.prog X.w D H0 []) (s0 : StD X.K ((Fm.pure S).more D).S H0 σ δ) (wk : Walks ((Fm.pure S).mw D) X.K J ds H0)
    (hU : ∀ d ∈ ds, kf d ∈ Kr) (hlen : Kr.length < 64)
    (he : ∀ d ∈ ds, ∀ (E : Addr) (s : Shared) (H : Hp) (C : Addr) (cl : List (Str × Addr)) (fp : List Addr), VD ((Fm.pure S).more E) (X.blk s H scope (compEnvC scope cl C X.env) fp) elt (δ.set j (some (.dat d))) (tupK (kf d)))
    (fin : ∀ H', Xt ((Fm.pure S).mw D).C H0 H' → Ms S X.K X.prog X.w D H' (ds.map kf) → Nx H') : tLoop (gName j) tYes [j] (tPut X.prog X.w X.K (tElt X scope elt) D) J σ H0 Nx := by
  refine ⟨fun i m H => m = ds.length - i ∧ i ≤ ds.length ∧ Xt ((Fm.pure S).mw D).C H0 H ∧ Ms S X.K X.prog X.w D H ((ds.take i).map kf), ⟨_, rfl, Nat.zero_le _, .refl _, by rw [List.take_zero]; exact m0⟩, ?_⟩
  rintro i m H ⟨rfl, hi, e1, mk⟩
  by_cases hlt : i < ds.length
  · refine .inr ⟨wk.go i H e1 hlt, fun H' => Xt ((Fm.pure S).mw D).C H0 H' ∧ Ms S X.K X.prog X.w D H' ((ds.take (i + 1)).map kf), fun H' h => ⟨_, by omega, rfl, hlt, h⟩, fun y H2 hy => ?_⟩
    obtain ⟨e2, n2⟩ := wk.yld ((Fm.pure S).more D).S mw_sub (fun a _ z => z) i H y H2 e1 hy
    have hd : ds[i]? = some ds[i] := List.getElem?_eq_getElem hlt
    have hm : ds[i] ∈ ds := List.getElem_mem hlt
    have tk : ds.take (i + 1) = ds.take i ++ [ds[i]] := by rw [List.take_add_one, hd]; rfl
    have mk2 := mk.same e2
    have s2 : StD X.K ((Fm.pure S).more D).S H2 σ δ := s0.mono mw_sub (e1.trans e2.of0)
    show wipe ((wipe σ _).set j (some y)) _ = _ ∧ tYes _ _ _
    refine ⟨wipe_set (by simp), ?_⟩
    simp only [tYes, if_true]
    intro sh Hs C cl fp
    refine he _ hm D sh Hs C cl fp _ H2 _ mk2.mok ((std_wipe s2 hf).setD j (n2 _ hd)) fun v H3 d e3 o3 n3 kd => ?_
    subst kd
    have mk3 := mk2.same e3
    obtain ⟨M, h1, h2, h3, h4⟩ := mk3.ex
    obtain ⟨a, rfl⟩ : ∃ a, v = .ref a := by cases n3; exact ⟨_, rfl⟩
    have sub : ∀ k ∈ M.map (·.2), k ∈ Kr := fun k hk => by
      obtain ⟨d, hd', rfl⟩ := List.mem_map.mp ((h4 k).mp hk)
      exact hU d (List.mem_of_mem_take hd')
    refine ⟨(a, kf ds[i]), M, rfl, h1, sq_tupK n3, fun m hm => sq_tupK (h2 m hm), fun no => ?_, fun M' y1 y2 => ⟨((e1.trans e2.of0).trans (e3.mono fun _ _ z => z.elim)).trans (.put (.inl fun _ => .inr rfl)), ⟨trivial, fun b sb => ?_⟩, M', upd_same, fun m hm => ?_, ?_, fun k => ?_⟩⟩
    · have : ((kf ds[i]) :: M.map (·.2)).length ≤ Kr.length := nodup_le (List.nodup_cons.mpr ⟨no, h3⟩) fun k hk => by
        rcases List.mem_cons.mp hk with e | e
        · rw [e]; exact hU _ hm
        · exact sub k e
      rw [List.length_cons, List.length_map] at this
      omega
    · have ne : b ≠ D := fun e => nD (e ▸ sb)
      rw [upd_ne ne]
      exact mk3.ok.2 b sb
    · have up : Xt (fun a _ => ((Fm.pure S).more D).S a) H3 (upd H3 D (Tk.SetK X.prog X.w D M')) := .put (.inl fun _ => .inr rfl)
      refine Dn.mono (S := ((Fm.pure S).more D).S) (fun _ _ z => .inl z) up _ _ ?_
      by_cases c : kf ds[i] ∈ M.map (·.2)
      · rw [y1 c] at hm
        exact h2 m hm
      · rcases List.mem_cons.mp ((y2 c).mem_iff.mp hm) with e | e
        · rw [e]; exact n3
        · exact h2 m e
    · by_cases c : kf ds[i] ∈ M.map (·.2)
      · rw [y1 c]; exact h3
      · exact ((y2 c).map (·.2)).nodup_iff.mpr (List.nodup_cons.mpr ⟨c, h3⟩)
    · rw [tk, List.map_append, List.mem_append, ← h4 k]
      by_cases c : kf ds[i] ∈ M.map (·.2)
      · rw [y1 c]
        exact ⟨.inl, fun z => z.elim id fun z => by rw [List.mem_singleton.mp z]; exact c⟩
      · rw [((y2 c).map (·.2)).mem_iff]
        simp only [List.map_cons, List.mem_cons, List.map_nil, List.not_mem_nil, or_false]
        exact ⟨fun z => z.elim .inr .inl, fun z => z.elim .inr .inl⟩
  · have e : i = ds.length := by omega
    subst e
    rw [List.take_length] at mk
    exact .inl ⟨wk.stop H e1, fin H e1 mk⟩
/-- sorted({e for x in xs}), the items tuples of texts -/
theorem vd_sortSC (j : Nat) {d0 : PyData} {ds : List PyData} (kf : PyData → List Str) (Kr : List (List Str)) (hu : X.A.units + 64 < cLine) (hm : X.mg "sorted" = none) (hd0 : seqOf d0 = some ds) (hi : VD (Fm.pure S) X iter δ d0)
    (he : ∀ d ∈ ds, ∀ (E : Addr) (s : Shared) (H : Hp) (C : Addr) (cl : List (Str × Addr)) (fp : List Addr), VD ((Fm.pure S).more E) (X.blk s H scope (compEnvC scope cl C X.env) fp) elt (δ.set j (some (.dat d))) (tupK (kf d)))
    (hne : ∀ k ∈ Kr, k ≠ []) (hU : ∀ d ∈ ds, kf d ∈ Kr) (hK : ∀ k ∈ Kr, ∃ d ∈ ds, kf d = k) (hlen : Kr.length < 64) (hasc : Kr.Pairwise fun a b => Tk.ltK a b = true) (hf : freeB δ [j] = true)
    (hN : X.N.Nodup) (ok : BlkOk X.N X.env.scope scope [(x, j)]) (hg : ∀ (s : Shared) (H : Hp) (C : Addr) (cl : List (Str × Addr)) (fp : List Addr), PG (X.blk s H scope (compEnvC scope cl C X.env) fp) (.Name x px) (gName j))
    (hc : X.calm = true := by rfl) (hs : ∀ x, foldedSetIterable iter X.env x = pure x := by intro _; rfl) (hgl : Gl X "sorted" := by rfl) (hst : starEach [.SetComp elt [pl (.Name x px) iter []] scope spos] X.env = [(false, eval (.SetComp elt [pl (.Name x px) iter []] scope spos) X.env)] := by rfl) :
    VD (Fm.pure S) X (.Call (.Name "sorted" p) [.SetComp elt [pl (.Name x px) iter []] scope spos] [] pos) δ (.list (Kr.map tupK)) := fun σ H Q o s q => by
  refine (pe_callB (Tk.cr_sortK hc hu) hgl hm (by decide +kernel) (pa_cons (pe_setc (te := tElt X scope elt) (tt := tYes) hc (by omega) hN (pi_sem X _ iter) ok hg (fun _ _ _ _ _ => pts_nil) (fun s H C cl fp => ⟨fun pins sh σ H' Q I h => h s H C cl fp pins sh I⟩) hs) pa_nil hst) (by decide) (by decide) hst rfl).sem ?_
  have hvi : VI (Fm.pure S) X (.Name x px) iter δ fun xs => xs = ds := by
    cases d0 with
    | list xs => cases hd0; exact vi_list (hi.to ⟨_, rfl, rfl⟩)
    | tuple xs => cases hd0; exact vi_tup (hi.to ⟨_, rfl, rfl⟩)
    | none => cases hd0
    | bool _ => cases hd0
    | int _ => cases hd0
    | str _ => cases hd0
    | dict _ => cases hd0
  refine hvi σ H _ o s fun J H1 ds' e1 o1 wk kd D hD => ?_
  subst kd
  have nD : ¬ S D := o1.fresh hD
  have up : Xt C0 H1 (upd H1 D (Tk.SetK X.prog X.w D [])) := .new hD
  have back : ∀ {H'}, Xt ((Fm.pure S).mw D).C (upd H1 D (Tk.SetK X.prog X.w D [])) H' → Xt C0 H1 H' := fun {H'} e2 => ⟨fun a u c h => by
    have ne : a ≠ D := fun z => by subst z; rw [hD] at h; cases h
    exact e2.k a u (fun z => z.elim c ne) (by rw [upd_ne ne]; exact h)⟩
  refine loop_set nD hf ⟨o1.mono up, [], upd_same, fun m hm => (by cases hm), List.nodup_nil, fun k => Iff.rfl⟩ (((o.all s e1).less (T := ((Fm.pure S).more D).S) fun a ha z => z.elim id fun e => absurd (e ▸ hD) ha).mono (C := C0) (fun a o z => z.elim) up)
    ⟨fun i H' e2 h => wk.go i H' (back e2) h, fun S' hC hS i H' x H3 e2 y => wk.yld S' (fun a o z => hC a o (.inl z)) (fun a ha z => ?_) i H' x H3 (back e2) y, fun H' e2 => wk.stop H' (back e2)⟩ hU hlen he fun H' e2 m2 => ?_
  · have ne : a ≠ D := fun e => by subst e; exact ha hD
    exact (hS a (by rw [upd_ne ne]; exact ha) z).elim id fun e => absurd e ne
  · obtain ⟨M, h1, h2, h3, h4⟩ := m2.ex
    have keys : ∀ k, k ∈ M.map (·.2) ↔ k ∈ Kr := fun k => (h4 k).trans ⟨fun z => by
      obtain ⟨d, hd, rfl⟩ := List.mem_map.mp z
      exact hU d hd, fun z => by
      obtain ⟨d, hd, rfl⟩ := hK k z
      exact List.mem_map.mpr ⟨d, hd, rfl⟩⟩
    show Tk.rSortK X.K X.prog X.w ([V.ref D] ++ []) H' Q
    refine ⟨D, M, rfl, h1, fun m hm => sq_tupK (h2 m hm), fun m hm => hne _ ((keys _).mp (List.mem_map.mpr ⟨m, hm, rfl⟩)), fun M' p' pm nd lt asc hp => ?_⟩
    have ek : M'.map (·.2) = Kr := Tk.asc_uniq (lt := Tk.ltK) ((pm.map (·.2)).trans ((List.perm_ext_iff_of_nodup h3 (asc_nodup hasc)).mpr keys)) (asc.imp fun h => Tk.ltK_of h) hasc
    have nw : Xt C0 H' (upd H' p' (.lst (M'.map fun m => V.ref m.1))) := .new hp
    refine q _ _ _ ((e1.trans (back e2)).trans nw) (m2.ok.mono nw) (.lst ⟨m2.ok.fresh hp, upd_same⟩ ?_) rfl
    rw [← ek, List.map_map]
    have all : ∀ l : List Tk.Mb, (∀ m ∈ l, m ∈ M) → DnAll X.K S (upd H' p' (.lst (M'.map fun m => V.ref m.1))) (l.map fun m => V.ref m.1) (l.map (tupK ∘ fun m => m.2)) := by
      intro l
      induction l with
      | nil => exact fun _ => .nil
      | cons m l ih =>
        intro hl
        exact .cons (Dn.less (S := ((Fm.pure S).more D).S) (fun a _ z => .inl z) _ _ (Dn.mono (C := C0) (fun _ _ z => z.elim) nw _ _ (h2 m (hl m (.head _))))) (ih fun x hx => hl x (.tail _ hx))
    exact all M' fun m hm => pm.mem_iff.mp hm
end
end Dl
set_option Elab.async false
set_option linter.all false
set_option maxRecDepth 100000
set_option maxHeartbeats 4000000
/-! Fx: sets of rules, the greatest span -/
namespace Fx
open PySem PySem.Spec PyProof.Rows L2 Dl
/-- the rules as data -/
def rulesD (rs : List Rule) : List PyData := rs.map fun r => .str r.s
def iR (p : Rule → Bool) : PyData → Bool
  | .str x => Rule.all.any fun r => decide (r.s = x) && p r
  | _ => false
theorem iR_at (p : Rule → Bool) (r : Rule) : iR p (.str r.s) = p r := by
  show (Rule.all.any fun q => decide (q.s = r.s) && p q) = p r
  rw [Bool.eq_iff_iff, List.any_eq_true]
  constructor
  · rintro ⟨q, _, h⟩
    rw [dec_rule, Bool.and_eq_true, decide_eq_true_eq] at h
    rw [← h.1]; exact h.2
  · intro h
    exact ⟨r, Rule.mem r, by rw [h, decide_eq_true rfl]; rfl⟩
theorem filter_iR (p : Rule → Bool) (rs : List Rule) : ((rulesD rs).filter (iR p)).map id = rulesD (rs.filter p) := by
  unfold rulesD
  rw [List.map_id, List.filter_map]
  congr 1
  refine List.filter_congr fun r _ => ?_
  exact iR_at p r
/-- the greatest span with which all is well -/
def GS (k : Nat → Bool) (d : PyData) : Prop := (∃ s : Nat, s ≤ 20 ∧ k s = true ∧ (∀ t, t ≤ 20 → s < t → k t = false) ∧ d = .int s) ∨ ((∀ t, t ≤ 20 → k t = false) ∧ d = .none)
theorem GS.uniq {k : Nat → Bool} {d e : PyData} (h : GS k d) (g : GS k e) : d = e := by
  rcases h with ⟨s, s1, s2, s3, rfl⟩ | ⟨h, rfl⟩ <;> rcases g with ⟨t, t1, t2, t3, rfl⟩ | ⟨g, rfl⟩
  · rcases (show s < t ∨ t < s ∨ s = t by omega) with z | z | z
    · rw [s3 t t1 z] at t2; cases t2
    · rw [t3 s s1 z] at s2; cases s2
    · rw [z]
  · rw [g s s1] at s2; cases s2
  · rw [h t t1] at t2; cases t2
  · rfl
theorem GS.ex (k : Nat → Bool) : ∃ d, GS k d := by
  have aux : ∀ n, n ≤ 21 → (∃ s, s < n ∧ k s = true ∧ ∀ t, t < n → s < t → k t = false) ∨ ∀ t, t < n → k t = false := by
    intro n
    induction n with
    | zero => intro _; right; intro t h; omega
    | succ n ih =>
      intro hn
      cases hk : k n with
      | true => exact .inl ⟨n, by omega, hk, fun t h1 h2 => by omega⟩
      | false =>
        rcases ih (by omega) with ⟨s, h1, h2, h3⟩ | h
        · refine .inl ⟨s, by omega, h2, fun t h4 h5 => ?_⟩
          rcases (show t < n ∨ t = n by omega) with z | z
          · exact h3 t z h5
          · rw [z]; exact hk
        · refine .inr fun t h4 => ?_
          rcases (show t < n ∨ t = n by omega) with z | z
          · exact h t z
          · rw [z]; exact hk
  rcases aux 21 (Nat.le_refl _) with ⟨s, h1, h2, h3⟩ | h
  · exact ⟨_, .inl ⟨s, by omega, h2, fun t a b => h3 t (by omega) b, rfl⟩⟩
  · exact ⟨_, .inr ⟨fun t a => h t (by omega), rfl⟩⟩
/-- a format of low 0 -/
def f0 (p : Nat) (m : Mode) (g i : Bool) (e : Nat) : Form := ⟨p, 0, e, m, g, i⟩
end Fx
set_option Elab.async false
set_option linter.all false
set_option maxRecDepth 100000
set_option maxHeartbeats 4000000
/-! Fx: the first formats, all profiles -/
namespace Fx
open PySem PySem.Spec PyProof.Rows L2 Dl
/-- formats of a precision, from some lows, of some spans: ascending -/
def someF (p : Nat) (lows : List Int) (spans : List Nat) : List Form := lows.flatMap fun l => spans.flatMap fun e => [Mode.away, .down, .even, .up, .zero].flatMap fun m => [false, true].flatMap fun g => [true, false].map fun i => ⟨p, l, e, m, g, i⟩
def firstF : List Form := someF 4 [-40, -4, -3, -1, 0] [0, 1, 2, 4, 5]
theorem someF_ok {p : Nat} {lows : List Int} {spans : List Nat} (h1 : 4 ≤ p) (h2 : p ≤ 10) (h3 : ∀ l ∈ lows, -40 ≤ l ∧ l ≤ 20) (h4 : ∀ e ∈ spans, e ≤ 20) : ∀ f ∈ someF p lows spans, f.Ok := by
  intro f hf
  obtain ⟨l, hl, hf⟩ := List.mem_flatMap.mp hf
  obtain ⟨e, he, hf⟩ := List.mem_flatMap.mp hf
  obtain ⟨m, hm, hf⟩ := List.mem_flatMap.mp hf
  obtain ⟨g, hg, hf⟩ := List.mem_flatMap.mp hf
  obtain ⟨i, hi, rfl⟩ := List.mem_map.mp hf
  obtain ⟨l1, l2⟩ := h3 l hl
  have e1 := h4 e he
  exact ⟨h1, h2, e1, l1, by show l + (e : Int) ≤ 40; omega⟩
def prf (f : Form) : List Rule := Rule.all.filter (holdsM f)
def ofMask (n : Nat) : List Rule := (Rule.all.zip (List.range 14)).filterMap fun p => if n.testBit p.2 then some p.1 else none
def profs : List (List Rule) := [192, 2752, 10944, 8384, 10881, 8321, 223, 8415, 255, 3071, 11263, 8447, 2303, 10495, 199, 3015, 11207, 8391, 231, 4071, 12263, 8423, 2279, 10471, 160, 1184, 9376, 3232, 11424, 3744, 11936, 2720, 10912, 8352, 2208, 10400, 224, 1248, 9440, 3296, 11488, 3808, 12000, 2784, 10976, 8416, 2272, 10464].map ofMask
def keyR (ws : List Rule) : List Str := ws.map Rule.s
theorem profs_in : ∀ f ∈ firstF, prf f ∈ profs := by
  have : (firstF.all fun f => profs.any fun k => k == prf f) = true := by decide +kernel
  intro f hf
  obtain ⟨k, hk, e⟩ := List.any_eq_true.mp (List.all_eq_true.mp this f hf)
  have e : k = prf f := by simpa using e
  exact e ▸ hk
theorem profs_of : ∀ k ∈ profs, ∃ f ∈ firstF, prf f = k := by
  have : (profs.all fun k => firstF.any fun f => prf f == k) = true := by decide +kernel
  intro k hk
  obtain ⟨f, hf, e⟩ := List.any_eq_true.mp (List.all_eq_true.mp this k hk)
  exact ⟨f, hf, by simpa using e⟩
theorem profs_ne : ∀ k ∈ profs, k ≠ [] := by
  have : (profs.all fun k => !k.isEmpty) = true := by decide +kernel
  intro k hk e
  subst e
  cases List.all_eq_true.mp this _ hk
theorem profs_asc : (profs.map keyR).Pairwise fun a b => Tk.ltK a b = true := by decide +kernel
end Fx
namespace Fx
open PySem PySem.Spec PyProof.Rows L2 Dl
def decM (x : Str) : Mode := if x = Mode.s .even then .even else if x = Mode.s .away then .away else if x = Mode.s .down then .down else if x = Mode.s .up then .up else .zero
def decF : PyData → Form
  | .tuple [.int p, .int l, .int h, .str m, .str g, .str i] => ⟨p.toNat, l, (h - l).toNat, decM m, decide (g = tinyS true), decide (i = hugeS true)⟩
  | _ => ⟨0, 0, 0, .even, true, true⟩
theorem decF_enc (f : Form) : decF (encF f) = f := by
  obtain ⟨p, l, e, m, g, i⟩ := f
  have hm : decM m.s = m := by cases m <;> decide +kernel
  have hg : decide (tinyS g = tinyS true) = g := by cases g <;> decide +kernel
  have hi : decide (hugeS i = hugeS true) = i := by cases i <;> decide +kernel
  show Form.mk (p : Int).toNat l (l + (e : Int) - l).toNat (decM m.s) _ _ = _
  rw [hm, hg, hi, Int.toNat_natCast, show l + (e : Int) - l = (e : Int) by omega, Int.toNat_natCast]
/-- the texts of a format's profile -/
def kfP (d : PyData) : List Str := keyR (prf (decF d))
theorem kfP_enc (f : Form) : kfP (encF f) = keyR (prf f) := by unfold kfP; rw [decF_enc]
theorem tupK_key (ws : List Rule) : tupK (keyR ws) = .tuple (rulesD ws) := by
  unfold tupK txts keyR rulesD
  rw [List.map_map]
  rfl
theorem firstF_ok : ∀ f ∈ firstF, f.Ok := someF_ok (by decide) (by decide) (by decide) (by decide)
/-- the fors of _first_formats -/
def lowD : List PyData := [.int (-40), .int (-4), .int (-3), .int (-1), .int 0]
def spanD : List PyData := [.int 0, .int 1, .int 2, .int 4, .int 5]
def modeD : List Str := [Mode.s .away, Mode.s .down, Mode.s .even, Mode.s .up, Mode.s .zero]
def tinyD : List Str := [tinyS false, tinyS true]
def hugeD : List Str := [hugeS true, hugeS false]
def G5 (l e : Int) (m g : Str) : PyData → List PyData
  | .str i => [.tuple [.int 4, .int l, .int (l + e), .str m, .str g, .str i]]
  | _ => []
def G4 (l e : Int) (m : Str) : PyData → List PyData
  | .str g => (txts hugeD).flatMap (G5 l e m g)
  | _ => []
def G3 (l e : Int) : PyData → List PyData
  | .str m => (txts tinyD).flatMap (G4 l e m)
  | _ => []
def G2 (l : Int) : PyData → List PyData
  | .int e => (txts modeD).flatMap (G3 l e)
  | _ => []
def G1 : PyData → List PyData
  | .int l => spanD.flatMap (G2 l)
  | _ => []
theorem first_eq : lowD.flatMap G1 = firstF.map encF := by kernel_rfl
theorem firstF_len : firstF.length = 500 := by decide +kernel
end Fx
set_option Elab.async false
set_option linter.all false
set_option maxRecDepth 100000
set_option maxHeartbeats 8000000
/-! set(t), t a tuple of tuples of texts; dicts whose keys are tuples of texts; < of data -/
namespace Tk
open PySem PySem.Spec PyProof.Rows L2
section
variable {P : Program} {w : World} {A : Around} {E : Value → Shared → Prop} {s : Shared}
theorem Has.keep {h h' : Heap} {D : Addr} {M : List Mb} {rs : Array (Int × Value)} {n : Nat} {t : SetTable} (R : Has P w h D M rs n t) (a : ∀ o, h.get? D = some o → h'.get? D = some o) (b : ∀ m ∈ M, Ly P w h' m) : Has P w h' D M rs n t := by
  obtain ⟨o, o1, r⟩ := R.obj
  exact ⟨⟨o, a o o1, r⟩, R.row, R.tab, R.one, b, R.ord, R.free, R.less⟩
/-- what the set has got of the first i items -/
structure Gt (ms : List Mb) (i : Nat) (M : List Mb) : Prop where
  sub : ∀ m ∈ M, m ∈ ms
  all : ∀ k, k ∈ M.map (·.2) ↔ k ∈ (ms.take i).map (·.2)
  len : M.length ≤ i
theorem fill_loop {I : Addr} {fp wr : List Addr} {G : Array GenState → Array GenState → Prop} {n : Nat} {Pv : Nat → Value → Prop} {Sv : Nat → Shared → Prop} {R : Result → Shared → Prop} (W : WalksS P w A.in1 I fp wr G n Pv Sv) (S : Addr) (hS : S ∉ fp) (ms : List Mb) (hn : n = ms.length) (less : ms.length < 64)
    (hv : ∀ i v, Pv i v → ∃ m, ms[i]? = some m ∧ v = .ref m.1) (h0 : Heap) (hk : ∀ m ∈ ms, Ly P w h0 m) (g0 : h0.get? S = none) (g1 : ∀ b ∈ wr, h0.get? b = none) (hu : A.units + 1 < cLine) : ∀ (k i : Nat) (s : Shared), n - i = k → i ≤ n → Sv i s → (∀ b o, h0.get? b = some o → s.heap.get? b = some o) → (∃ M rs e t, Has P w s.heap S M rs e t ∧ Gt ms i M) →
      (∀ s' M rs e t, Moved (S :: wr) G s s' → Has P w s'.heap S M rs e t → Gt ms n M → (∀ b o, h0.get? b = some o → s'.heap.get? b = some o) → R (.ok (.ret .none)) s') → codeAny (model P w) A (.builtin "set.update.loop" ⟨[.ref S, .ref I], []⟩) R s := by
  have more : ∀ b ∈ wr, b ∈ S :: wr := fun b hb => .tail _ hb
  have kept : ∀ {s s' : Shared}, Moved wr G s s' → (∀ b o, h0.get? b = some o → s.heap.get? b = some o) → ∀ b o, h0.get? b = some o → s'.heap.get? b = some o := fun mv k b o e => mv.heap b o (fun hb => by rw [g1 b hb] at e; cases e) (k b o e)
  have hs2 : S ∉ wr := fun z => hS (W.sub _ z)
  intro k
  induction k with
  | zero =>
    rintro i s hi hle sv kp ⟨M, rs, e, t, R0, gt⟩ fin
    obtain rfl : i = n := by omega
    refine codeAny_builtin F.entry_set_update_loop ?_
    rw [Around.under_plainId F.plain_set_update_loop _]
    show wpAny _ A.in1 (pyNext (.ref I) >>= _) _ _ s
    refine wpAny_bind (W.done s _ _ sv fun s1 mv => ?_)
    have kp1 := kept mv kp
    exact wpAny_pure (fin s1 M rs e t (mv.mono more) (R0.keep (fun o z => mv.heap S o hs2 z) fun m hm => (hk m (gt.sub m hm)).stay fun o z => kp1 _ o z) gt kp1)
  | succ k ih =>
    rintro i s hi hle sv kp ⟨M, rs, e, t, R0, gt⟩ fin
    have lt : i < n := by omega
    refine codeAny_builtin F.entry_set_update_loop ?_
    rw [Around.under_plainId F.plain_set_update_loop _]
    show wpAny _ A.in1 (pyNext (.ref I) >>= _) _ _ s
    refine wpAny_bind (W.item i s _ _ lt sv fun v s1 hP sv1 mv => ?_)
    obtain ⟨m, hm, rfl⟩ := hv i v hP
    have mem : m ∈ ms := List.mem_of_getElem? hm
    have kp1 := kept mv kp
    have ly : ∀ x ∈ ms, Ly P w s1.heap x := fun x hx => (hk x hx).stay fun o z => kp1 _ o z
    have R1 : Has P w s1.heap S M rs e t := R0.keep (fun o z => mv.heap S o hs2 z) fun x hx => ly x (gt.sub x hx)
    have tk : ms.take (i + 1) = ms.take i ++ [m] := by rw [List.take_add_one, hm]; rfl
    show wpAny _ A.in1 (holding [Value.ref m.1] (setAdd S (.ref m.1)) >>= _) _ _ s1
    refine wpAny_bind (wpAny_holding ?_)
    unfold setAdd
    refine wpAny_holding (wpAny_bind (wpAny_pyHash_tuple (by show A.units + 1 < cLine; exact hu) (ly m mem) ?_))
    refine put_in (s := { s1 with toks := s1.toks + (m.2.length + 1) }) R1 (ly m mem) (by show A.units + 1 < cLine; exact hu) (fun _ => by have := gt.len; omega) fun b h2 M2 rs2 e2 t2 sb R2 c1 c2 => ?_
    have gt2 : Gt ms (i + 1) M2 := by
      by_cases c : m.2 ∈ M.map (·.2)
      · rw [c1 c]
        refine ⟨gt.sub, fun k => ?_, Nat.le_succ_of_le gt.len⟩
        rw [tk, List.map_append, List.mem_append, ← gt.all k]
        exact ⟨.inl, fun z => z.elim id fun z => by rw [List.mem_singleton.mp z]; exact c⟩
      · have pm := c2 c
        refine ⟨fun x hx => (List.mem_cons.mp (pm.mem_iff.mp hx)).elim (fun z => z ▸ mem) (gt.sub x), fun k => ?_, by rw [pm.length_eq]; exact Nat.succ_le_succ gt.len⟩
        rw [tk, List.map_append, List.mem_append, ← gt.all k, (pm.map (·.2)).mem_iff]
        simp only [List.map_cons, List.mem_cons, List.map_nil, List.not_mem_nil, or_false]
        exact ⟨fun z => z.elim .inr .inl, fun z => z.elim .inr .inl⟩
    have kp2 : ∀ b o, h0.get? b = some o → h2.get? b = some o := fun b o z => (sb.2 b fun y => by rw [y, g0] at z; cases z).trans (kp1 b o z)
    refine wpAny_pure ⟨plainId_quiet F.plain_set_update_loop _, ih (i + 1) _ (by omega) lt (W.frame _ s1 _ _ sv1 (Nat.le_add_right _ _) fun b hb o z => (sb.2 b fun y => hS (y ▸ hb)).trans z) kp2 ⟨M2, rs2, e2, t2, R2, gt2⟩ fun s3 M3 rs3 e3 t3 mv3 R3 gt3 kp3 => fin s3 M3 rs3 e3 t3 (Moved.trans W.gtrans ((mv.mono more).then_heap (Nat.le_add_right _ _) fun b o hb z => (sb.2 b fun y => hb (by rw [y]; exact .head _)).trans z) mv3) R3 gt3 kp3⟩
/-- set(t) -/
theorem call_setK {l : Addr} {items : Array Value} (ms : List Mb) {Q : Value → Shared → Prop} (hh : A.handled = none) (hl : s.heap.IsTuple l items) (hit : items.toList = ms.map fun m => Value.ref m.1) (hk : ∀ m ∈ ms, Ly P w s.heap m) (less : ms.length < 64) (hu : A.units + 8 < cLine)
    (q : ∀ (h' : Heap) (tk : Nat) M rs e t, Has P w h' s.heap.objs.size M rs e t → Gt ms ms.length M → (∀ b o, s.heap.get? b = some o → h'.get? b = some o) → Q (.ref s.heap.objs.size) { s with heap := h', toks := tk }) : wpAny (model P w) A (call (.type "set") [.ref l]) Q E s := by
  have sz : items.size = ms.length := by
    have := congrArg List.length hit
    simpa using this
  obtain ⟨c, tl, hmro⟩ := F.called_set.mro
  have made := F.called_set.made
  have subs := F.called_set.sub
  have nt := F.called_set.notType
  have cc := F.called_set.canCreate
  have tc := F.typeCall_set_1 (.ref l)
  have new : (s.heap.push { cls := .type "set", dict := none, data := .set #[] 0 (.fresh 0 0 (!w.params.followText "set-order")) }).get? s.heap.objs.size = some { cls := .type "set", dict := none, data := .set #[] 0 (.fresh 0 0 (!w.params.followText "set-order")) } := Heap.get?_push_size _ rfl
  have old : ∀ b o, s.heap.get? b = some o → (s.heap.push { cls := .type "set", dict := none, data := .set #[] 0 (.fresh 0 0 (!w.params.followText "set-order")) }).get? b = some o := fun b o e => Heap.get?_push_of_some _ e
  have R0 : Has P w (s.heap.push { cls := .type "set", dict := none, data := .set #[] 0 (.fresh 0 0 (!w.params.followText "set-order")) }) s.heap.objs.size [] #[] 0 (.fresh 0 0 (!w.params.followText "set-order")) :=
    ⟨⟨_, new, ⟨rfl, rfl, rfl⟩, rfl⟩, rfl, ⟨List.Pairwise.nil, rfl, rfl, .inl rfl, fun x hx => (by cases hx), fun i h j hi => (by simp at hi)⟩, List.nodup_nil, fun m hm => (by cases hm), by
      cases e : w.params.followText "set-order" with
      | true => exact .inl rfl
      | false => exact .inr rfl, by show 0 * 5 < 7 * 3; decide, by show 0 < 64; decide⟩
  have size1 : (s.heap.push { cls := .type "set", dict := none, data := .set #[] 0 (.fresh 0 0 (!w.params.followText "set-order")) }).objs.size = s.heap.objs.size + 1 := Heap.size_push ..
  generalize ho : ({ cls := .type "set", dict := none, data := .set #[] 0 (.fresh 0 0 (!w.params.followText "set-order")) } : Obj) = ob at new old R0 size1
  generalize hp1 : s.heap.push ob = p1 at new old R0 size1
  have l0 : l < s.heap.objs.size := let ⟨_, z, _⟩ := hl; Heap.lt_size z
  refine wpAny_call (codeAny_of_tree ?_)
  show wpAny _ _ (callAny (.type "set") _) _ _ _
  refine wpAny_pure ⟨Code.quiet_builtin _ (by decide +kernel), codeAny_builtin F.entry_type_call ?_⟩
  rw [Around.under_plain (weight_type_call_type "set" [.ref l] []) rfl]
  repeat (any_goals first | assumption | wp_step)
  refine codeAny_mono (L2.code_set_led1 (.ref l) (E := E) (Q₁ := fun obj s1 => obj = .ref s.heap.objs.size ∧ s1 = { s with heap := p1 }) (by rw [ho, hp1]; exact ⟨rfl, rfl⟩)) fun r s1 hr => ?_
  cases r with
  | error e => exact hr
  | ok fl => cases fl with
    | ret obj =>
      obtain ⟨rfl, rfl⟩ := hr
      have ty : Shared.TypeIs { s with heap := p1 } (.ref s.heap.objs.size) "set" := ⟨_, new, by rw [← ho]⟩
      have li := F.called_set.init.lookup
      have bi := F.called_set.init.bind (.ref s.heap.objs.size)
      repeat (any_goals first | assumption | wp_step)
      refine codeAny_mono (codeAny_call_builtin (R := wants (fun r s2 => r = .none ∧ ∃ h' tk M rs e t, s2 = { s with heap := h', toks := tk } ∧ Has P w h' s.heap.objs.size M rs e t ∧ Gt ms ms.length M ∧ ∀ b o, s.heap.get? b = some o → h'.get? b = some o) E) F.called_set.init.plain F.entry_set_init (check_set_init_1 ty ?_)) fun r2 s2 hr2 => ?_
      · obtain ⟨ol, z1, z2, nl, z3⟩ := hl
        obtain ⟨a1, a2, a3, a4⟩ := ol
        simp only at z2 z3
        subst z2 z3
        have z4 := old l _ z1
        have s1 := F.sub_tuple_set
        have s2 := F.sub_tuple_frozenset
        have nd : (Value.type "tuple" == Value.type "dict") = false := by decide
        have tup : p1.IsTuple l items := ⟨_, z4, rfl, nl, rfl⟩
        subst hp1
        subst ho
        unfold Builtin.«set.__init__» noKeywords Builtin.Frozenset.updateFrom
        generalize ePI : pyIter = PI
        wp_walk
        subst ePI
        refine wpAny_pyIter_tuple tup ?_
        refine wpAny_bind (wpAny_runValue ?_)
        have ne1 : l ≠ s.heap.objs.size + 1 := Nat.ne_of_lt (Nat.lt_succ_of_lt l0)
        have ne2 : ∀ z, z = s.heap.objs.size + 1 → s.heap.objs.size ∉ [z, l] := fun z ez => by
          simp only [List.mem_cons, List.not_mem_nil, or_false, not_or, ez]
          exact ⟨Nat.ne_of_lt (Nat.lt_succ_self _), Nat.ne_of_gt l0⟩
        refine fill_loop (A := A.in1.in1) ((Walks.tuple (by simp [hh]) _ l (fun z => ne1 (z.trans size1)) items).toS) s.heap.objs.size (ne2 _ size1) ms sz less (fun i v e => ?_) s.heap hk (Heap.get?_none_of_le (Nat.le_refl _)) (fun b hb => ?_) (by show A.units + 1 + 1 + 1 < cLine; omega) (items.size - 0) 0 _ rfl (Nat.zero_le _) ⟨⟨_, Heap.get?_push_size _ rfl, rfl, rfl⟩, tup.push _⟩ (fun b o e => Heap.get?_push_of_some _ (old b o e))
          ⟨[], #[], 0, _, R0.keep (fun o e => Heap.get?_push_of_some _ e) fun m hm => (by cases hm), fun m hm => (by cases hm), fun k => by simp, Nat.le_refl _⟩ fun s' M rs e t mv R3 gt kp => ?_
        · have e' : items.toList[i]? = some v := by rw [Array.getElem?_toList]; exact e
          rw [hit, List.getElem?_map] at e'
          obtain ⟨m, h1, h2⟩ := Option.map_eq_some_iff.mp e'
          exact ⟨m, h1, h2.symm⟩
        · rw [List.mem_singleton.mp hb]
          exact Heap.get?_none_of_le (by rw [size1]; omega)
        · obtain ⟨h', g', d', tk', os'⟩ := s'
          have x1 : g' = s.gens := mv.gens
          have x2 : d' = s.drawn := mv.drawn
          have x3 : os' = s.os := mv.os
          subst x1 x2 x3
          show wpAny _ _ _ _ _ _
          refine wpAny_pure ?_
          show wpAny _ _ (ret Value.none) _ _ _
          exact wpAny_pure ⟨rfl, h', tk', M, rs, e, t, rfl, R3, by rw [sz] at gt; exact gt, kp⟩
      · cases r2 with
        | error e => exact hr2
        | ok f2 => cases f2 with
          | ret r =>
            obtain ⟨rfl, h', tk, M, rs, e, t, rfl, x1, x2, x3⟩ := hr2
            repeat (any_goals first | assumption | wp_step)
            exact q _ _ _ _ _ _ x1 x2 x3
          | _ => exact hr2.elim
    | _ => exact hr.elim
end
end Tk
set_option Elab.async false
set_option linter.all false
set_option maxRecDepth 100000
set_option maxHeartbeats 4000000
/-! Fx: texts of integers and dyadics -/
namespace Fx
open PySem PySem.Spec PyProof.Rows L2 Dl TL
/-- digits behind the sign -/
def dg (x : Str) : Str := Txt.removeprefix x ("-" : Str)
/-! ### what is read -/
/-- a dyadic whose text is short -/
structure DyOk (n k : Int) : Prop where
  dy : dyB (.tuple [.int n, .int k]) = true
  n : n.natAbs < 10 ^ 30
  k : k.natAbs < 10 ^ 30
theorem DyOk.zero {k : Int} (h : DyOk 0 k) : k = 0 := by
  have h1 : (within (.int 0) (-(10 ^ 40)) (10 ^ 40) && (within (.int k) (-400) 400 && (decide ((0 : Int) % 2 = 1) || (decide ((0 : Int) = 0) && decide (k = 0))))) = true := h.dy
  simp only [Bool.and_eq_true, Bool.or_eq_true, decide_eq_true_eq] at h1
  rcases h1.2.2 with z | z
  · exact absurd z (by decide)
  · exact z.2
theorem DyOk.of {n k : Int} (h1 : n % 2 = 1) (h2 : n.natAbs < 10 ^ 30) (h3 : -400 ≤ k) (h4 : k ≤ 400) : DyOk n k := ⟨by
  show (within (.int n) (-(10 ^ 40)) (10 ^ 40) && (within (.int k) (-400) 400 && (decide (n % 2 = 1) || (decide (n = 0) && decide (k = 0))))) = true
  have w1 : within (.int n) (-(10 ^ 40)) (10 ^ 40) = true := by
    show (decide _ && decide _) = true
    rw [Bool.and_eq_true, decide_eq_true_eq, decide_eq_true_eq]; omega
  have w2 : within (.int k) (-400) 400 = true := by
    show (decide _ && decide _) = true
    rw [Bool.and_eq_true, decide_eq_true_eq, decide_eq_true_eq]; omega
  rw [w1, w2, decide_eq_true h1]; rfl, h2, by omega⟩
end Fx
set_option Elab.async false
set_option linter.all false
set_option maxRecDepth 100000
set_option maxHeartbeats 4000000
namespace Dl
open PySem PySem.Spec PyProof.Rows L2 Fx
end Dl
namespace Dl
open PySem PySem.Spec PyProof.Rows L2 Fx
section
variable {F : Fm} {X : Cx} {δ : DE} {e a b : Expr} {pos : Pos} {xs ys : List PyData} {x : Str} {n : Int}
/-- list + list -/
theorem opd_catL {K : PySem.W.Frag} (hl : xs.length + ys.length ≤ 100000) : OpD K rCat (.list xs) (.list ys) (.list (xs ++ ys)) := fun S H vx vy Q hS hx hy q => by
  cases hx with
  | lst sx ax =>
    cases hy with
    | lst sy ay => exact ⟨_, _, _, _, rfl, rfl, sx.2, sy.2, by rw [ax.length, ay.length]; exact sz_le hl, fun p hp => q _ _ (.new hp) (.lst ⟨fun z => hS _ z hp, upd_same⟩ (Dn.monoAll (C := C0) (fun _ _ z => z.elim) (.new hp) _ _ (ax.append ay)))⟩
theorem vd_catL (ha : VD F X a δ (.list xs)) (hb : VD F X b δ (.list ys)) (hl : xs.length + ys.length ≤ 100000 := by first | decide | simp) : VD F X (.BinOp a .Add b pos) δ (.list (xs ++ ys)) := vd_op op_cat (opd_catL hl) ha hb
end
end Dl
set_option Elab.async false
set_option linter.all false
set_option maxRecDepth 100000
set_option maxHeartbeats 4000000
/-! dicts whose keys are tuples of texts; < of data; x in t, deeper data -/
namespace Tk
open PySem PySem.Spec PyProof.Rows L2
abbrev Ent := List Str × Addr × Value
def Dk0 (P : Program) (w : World) (h : Heap) (d : Addr) (xs : List Ent) : Prop := (d == sysModules) = false ∧ ∃ o es ep, h.get? d = some o ∧ o.ExactDict ∧ o.data = .dict es ep ∧ es.toList = xs.map (entryOfKey (tupleKind (strKind P w))) ∧ (xs.map (·.1)).Nodup
def DicK (P : Program) (w : World) (d : Addr) (xs : List Ent) : HO := .ext fun h => Dk0 P w h d xs
theorem dicK_new {P : Program} {w : World} {H : Hp} {h : Heap} {d : Addr} {xs : List Ent} (R : Dk0 P w h d xs) : ObjOk P w H h d (DicK P w d xs) := by
  have ⟨z, o, es, ep, ho, r⟩ := id R
  refine ⟨R, ⟨o, ho⟩, fun h1 h2 p k => ?_⟩
  have ⟨z', o', es', ep', ho', r'⟩ := p
  exact ⟨z', o', es', ep', k o' ho', r'⟩
theorem keys_stored {xs : List Ent} {k k' : List Str} {a : Addr} {v : Value} : k' ∈ (storedH xs k a v).map (·.1) ↔ k' ∈ xs.map (·.1) ∨ k' = k := by
  cases e : atKey xs k with
  | none =>
    rw [storedH_new e, List.map_append, List.mem_append]
    simp
  | some p =>
    have hk : k ∈ xs.map (·.1) := by
      obtain ⟨x, hx, _⟩ := Option.map_eq_some_iff.mp e
      exact List.mem_map.mpr ⟨x, List.mem_of_find?_eq_some hx, by simpa using List.find?_some hx⟩
    have em : (xs.map (putAt k v)).map (·.1) = xs.map (·.1) := by
      rw [List.map_map]
      exact List.map_congr_left fun x _ => by show (putAt k v x).1 = x.1; unfold putAt; split <;> rfl
    rw [storedH_old e, em]
    exact ⟨.inl, fun z => z.elim id fun z => z ▸ hk⟩
theorem keys_all : ∀ (ps xs : List Ent) (k : List Str), k ∈ (storedAllH xs ps).map (·.1) ↔ k ∈ xs.map (·.1) ∨ k ∈ ps.map (·.1)
  | [], xs, k => by simp [storedAllH]
  | p :: ps, xs, k => by
    show k ∈ (storedAllH (storedH xs p.1 p.2.1 p.2.2) ps).map (·.1) ↔ _
    rw [keys_all ps, keys_stored]
    simp only [List.map_cons, List.mem_cons]
    constructor
    · rintro ((z | z) | z)
      · exact .inl z
      · exact .inr (.inl z)
      · exact .inr (.inr z)
    · rintro (z | z | z)
      · exact .inl (.inl z)
      · exact .inl (.inr z)
      · exact .inr z
section
variable {X : Cx}
/-- dict(ps), ps pairs of a tuple of texts and True -/
def rDictK (K : PySem.W.Frag) (P : Program) (w : World) : List V → Hp → VK → Prop := fun vs H Q => ∃ (a : Addr) (ts : List Addr) (ms : List Mb), vs = [V.ref a] ∧ SqL K H a (ts.map V.ref) ∧ ts.length = ms.length ∧ (∀ (j : Nat) t m, ts[j]? = some t → ms[j]? = some m → SqT K H t [V.ref m.1, V.bl true]) ∧ (∀ m ∈ ms, SqT K H m.1 (m.2.map V.str)) ∧
  ∀ p L, H p = none → (∀ x ∈ L, ∃ m ∈ ms, x.1 = m.2 ∧ x.2.1 = m.1) → (∀ k, k ∈ L.map (·.1) ↔ k ∈ ms.map (·.2)) → Q (.ref p) (upd H p (DicK P w p L))
theorem cr_dictK (hc : X.calm = true) (hu : X.A.units + 64 < cLine) : CallR X (.type "dict") (rDictK X.K X.prog X.w) := by
  intro pins s σ H vs us Q I r h
  obtain ⟨a, ts, ms, rfl, ha, hl, hp, hk, q⟩ := h
  rw [Vals.ref1 r]
  obtain ⟨its, rv, pl, hz⟩ := I.list ha
  have ei : its = ts.map Value.ref := by
    have go : ∀ (ts : List Addr) (us : List Value), Vals (ts.map V.ref) us → us = ts.map Value.ref := by
      intro ts
      induction ts with
      | nil => intro us h; cases h; rfl
      | cons t ts ih => intro us h; cases h with | cons r1 r2 => cases r1; rw [ih _ r2]; rfl
    exact go ts its rv
  subst ei
  obtain ⟨o, n, ho, hcl, hd, hdat⟩ := pl
  rw [List.length_map] at hz
  have get : ∀ {j : Nat} {k v : Value}, (ms.map fun m => (Value.ref m.1, Value.bool true))[j]? = some (k, v) → ∃ m, ms[j]? = some m ∧ k = .ref m.1 ∧ v = .bool true := fun {j k v} e => by
    rw [List.getElem?_map] at e
    obtain ⟨m, h1, h2⟩ := Option.map_eq_some_iff.mp e
    cases h2
    exact ⟨m, h1, rfl, rfl⟩
  have pi : PairItems s.heap (ts.map Value.ref).toArray (fun j => (ts[j]?).getD 0) (ms.map fun m => (Value.ref m.1, Value.bool true)) := by
    refine ⟨by simp [hl], fun j k v e => ?_⟩
    obtain ⟨m, hm, rfl, rfl⟩ := get e
    have jl : j < ts.length := by rw [hl]; exact (List.getElem?_eq_some_iff.mp hm).1
    have ht : ts[j]? = some ts[j] := List.getElem?_eq_getElem jl
    refine ⟨by simp [ht], .inl ?_⟩
    obtain ⟨us, rr, tu, _⟩ := I.tuple (hp j _ m ht hm)
    cases rr with
    | cons r1 r2 => cases r2 with
      | cons r2 r3 =>
        cases r3
        cases r1
        cases r2
        show s.heap.IsTuple ((ts[j]?).getD 0) _
        rw [ht]
        exact tu
  have ly : ∀ m ∈ ms, Ly X.prog X.w s.heap m := fun m hm => ly_of I (hk m hm)
  refine call_dict_pairsH (knd := tupleKind (strKind X.prog X.w)) (ps := ms.map fun m => (m.2, m.1, Value.bool true)) (PairArg.list a _ (fun j => (ts[j]?).getD 0) (ms.map fun m => (Value.ref m.1, Value.bool true))) (I.ok.hd hc) (by show X.A.units + 1 + 1 < cLine; omega) ⟨⟨o, n, ho, hcl, hd, hdat⟩, pi⟩
    ⟨by simp, fun i key v e => ?_⟩ (fun h' k x hx => ?_) (by rw [List.length_map, ← hl]; exact hz) fun h' tk hd' k => ?_
  · obtain ⟨m, hm, rfl, rfl⟩ := get e
    exact ⟨m.2, m.1, by rw [List.getElem?_map, hm]; rfl, rfl⟩
  · obtain ⟨m, hm, rfl⟩ := List.mem_map.mp hx
    exact (ly m hm).stay fun o e => k _ o (Nat.ne_of_lt (Heap.lt_size e)) (fun z => by cases z) e
  · obtain ⟨o', es, ep, d1, d2, d3, d4, d5, d6⟩ := hd'
    have big : (s.heap.objs.size == sysModules) = false := beq_eq_false_iff_ne.mpr (Nat.ne_of_gt I.big)
    refine ⟨.ref s.heap.objs.size, upd H s.heap.objs.size (DicK X.prog X.w s.heap.objs.size _), I.laid (t' := tk) (fun b o e => k b o (fun z => by cases z) e) (Nat.le_refl _) (dicK_new ⟨big, o', es, ep, d1, d2, d3, d4, d6⟩), rfl, q _ _ (I.hok.fresh (Nat.le_refl _)) ?_ fun k => ?_⟩
    · exact storedAllH_keys (P := fun k b => ∃ m ∈ ms, k = m.2 ∧ b = m.1) (fun x hx => by cases hx) fun x hx => by
        obtain ⟨m, hm, rfl⟩ := List.mem_map.mp hx
        exact ⟨m, hm, rfl, rfl⟩
    · rw [keys_all, List.map_map]
      simp only [List.map_nil, List.not_mem_nil, false_or]
      exact Iff.rfl
/-- x not in d -/
theorem op_notinK (hu : X.A.units + 64 < cLine) : OpR X (compareOp .NotIn) (fun x y H Q => ∃ (a p : Addr) (k : List Str) (L : List Ent), x = .ref a ∧ y = .ref p ∧ SqT X.K H a (k.map V.str) ∧ H p = some (DicK X.prog X.w p L) ∧ (∀ e ∈ L, SqT X.K H e.2.1 (e.1.map V.str)) ∧ Q (.bl (!decide (k ∈ L.map (·.1)))) H) := by
  intro pins s σ H x y v u Q I rx ry h
  obtain ⟨a, p, k, L, rfl, rfl, ha, hp, hL, q⟩ := h
  cases rx
  cases ry
  have R0 : Dk0 X.prog X.w s.heap p L := (I.hok p _ hp).1
  obtain ⟨sm, o, es, ep, d1, d2, d3, d4, d6⟩ := R0
  have hm : s.heap.DictOfH (tupleKind (strKind X.prog X.w)) p L := ⟨o, es, ep, d1, d2, d3, d4, fun e he => ly_of (m := (e.2.1, e.1)) I (hL e he), d6⟩
  have key : (tupleKind (strKind X.prog X.w)).is s.heap k a := ly_of (m := (a, k)) I ha
  have dec : (atKey L k).isSome = decide (k ∈ L.map (·.1)) := by
    rw [Bool.eq_iff_iff, decide_eq_true_eq]
    unfold atKey
    rw [Option.isSome_map, List.find?_isSome]
    simp only [List.mem_map, decide_eq_true_eq]
  have fin : EP X pins σ Q (.bool (!(atKey L k).isSome)) { s with toks := s.toks + (tupleKind (strKind X.prog X.w)).draws k } := ⟨.bl _, H, I.tok _, by rw [dec]; rfl, q⟩
  show wpAny _ _ (do return Value.bool (!(← contains (.ref p) (.ref a)))) _ _ s
  refine wpAny_bind ?_
  unfold contains
  try with_reducible refine wpAny_holding ?_
  refine wpAny_bind (wpAny_specialOf hm.typeIs slot_dict_contains.lookup ?_)
  show wpAny _ _ (if (some (Value.builtin "dict.__contains__") == some Value.none) = true then _ else _) _ _ s
  rw [if_neg (by rw [beq_builtin_none]; exact Bool.false_ne_true)]
  refine wpAny_bind (wpAny_callSpecialUnlessNone?_slot (name := Str.ofString "__contains__") hm.typeIs slot_dict_contains (wpAny_call_entry slot_dict_contains hm.typeIs entry_dict_contains ?_ (args_dict_contains _ _)))
  show wpAny _ _ (dictGet p (.ref a) >>= _) _ _ s
  refine wpAny_bind (wpAny_dictGet_heap (by show X.A.units + 1 < cLine; omega) key hm ?_)
  cases hf : atKey L k with
  | some z =>
    rw [hf] at fin
    exact wpAny_pure ⟨_, rfl, wpAny_truthy_bool (wpAny_pure fin)⟩
  | none =>
    rw [hf] at fin
    show wpAny _ _ (Builtin.Dict.pendingKey? p (.ref a) >>= _) _ _ _
    exact wpAny_bind (wpAny_pendingKey_other sm (wpAny_pure ⟨_, rfl, wpAny_truthy_bool (wpAny_pure fin)⟩))
/-- set(t) -/
def rSetK (K : PySem.W.Frag) (P : Program) (w : World) : List V → Hp → VK → Prop := fun vs H Q => ∃ (a : Addr) (ms : List Mb), vs = [V.ref a] ∧ SqT K H a (ms.map fun m => V.ref m.1) ∧ (∀ m ∈ ms, SqT K H m.1 (m.2.map V.str)) ∧ ms.length < 64 ∧
  ∀ p M, H p = none → (∀ m ∈ M, m ∈ ms) → (M.map (·.2)).Nodup → (∀ k, k ∈ M.map (·.2) ↔ k ∈ ms.map (·.2)) → Q (.ref p) (upd H p (SetK P w p M))
theorem cr_setK (hc : X.calm = true) (hu : X.A.units + 64 < cLine) : CallR X (.type "set") (rSetK X.K X.prog X.w) := by
  intro pins s σ H vs us Q I r h
  obtain ⟨a, ms, rfl, ha, hk, less, q⟩ := h
  rw [Vals.ref1 r]
  obtain ⟨its, rv, ht, _⟩ := I.tuple ha
  have ei : its = ms.map fun m => Value.ref m.1 := by
    have go : ∀ (ms : List Mb) (us : List Value), Vals (ms.map fun m => V.ref m.1) us → us = ms.map fun m => Value.ref m.1 := by
      intro ms
      induction ms with
      | nil => intro us h; cases h; rfl
      | cons t ts ih => intro us h; cases h with | cons r1 r2 => cases r1; rw [ih _ r2]; rfl
    exact go ms its rv
  refine call_setK ms (I.ok.hd hc) (show s.heap.IsTuple a its.toArray from ht) (by simpa using ei) (fun m hm => ly_of I (hk m hm)) less (by omega) fun h' tk M rs e t R gt k => ?_
  rw [show ms.length = ms.length from rfl] at gt
  refine ⟨.ref s.heap.objs.size, upd H s.heap.objs.size (SetK X.prog X.w s.heap.objs.size M), I.laid (t' := tk) k (Nat.le_refl _) (setK_new R.st), rfl, q _ M (I.hok.fresh (Nat.le_refl _)) gt.sub R.one fun k => ?_⟩
  have := gt.all k
  rw [List.take_length] at this
  exact this
/-- < of data of like shape -/
theorem op_ltD (hu : X.A.units + 64 < cLine) : OpR X (compareOp .Lt) (fun x y H Q => ∃ d e, Dp X.K H x d ∧ Dp X.K H y e ∧ PySem.W.alike d e = true ∧ d ≠ .none ∧ min d.depth e.depth ≤ 60 ∧ Q (.bl (PySem.W.dataLt d e)) H) := by
  intro pins s σ H x y v u Q I rx ry h
  obtain ⟨d, e, hd, he, al, ne, dp, q⟩ := h
  obtain ⟨as, r1⟩ := Dp.reads I d x v hd rx
  obtain ⟨bs, r2⟩ := Dp.reads I e y u he ry
  exact PySem.W.rcLt_alike d e X.A s v u as bs r1 r2 al ne (by omega) X.prog X.w _ _ ⟨.bl _, H, I, rfl, q⟩
/-- x in t, x not in t -/
theorem op_inT2 (hu : X.A.units + 64 < cLine) {ds : List PyData} (h1 : PyData.plainAll ds = true) (h2 : PyData.depthAll ds ≤ 8) {d : PyData} (hd : d.plain = true) : OpR X (compareOp .In) (fun x y H Q => Dp X.K H x d ∧ Dp X.K H y (.tuple ds) ∧ Q (.bl (ds.any fun z => PyData.eqv z d)) H) := by
  intro pins s σ H x y v u Q I rx ry h
  obtain ⟨g1, g2, q⟩ := h
  obtain ⟨as, r1⟩ := Dp.reads I d x v g1 rx
  obtain ⟨bs, r2⟩ := Dp.reads I (.tuple ds) y u g2 ry
  exact SeqAt.in_tuple_data r2 r1 h1 hd (by omega) ⟨.bl _, H, I, rfl, q⟩
theorem op_notinT2 (hu : X.A.units + 64 < cLine) {ds : List PyData} (h1 : PyData.plainAll ds = true) (h2 : PyData.depthAll ds ≤ 8) {d : PyData} (hd : d.plain = true) : OpR X (compareOp .NotIn) (fun x y H Q => Dp X.K H x d ∧ Dp X.K H y (.tuple ds) ∧ Q (.bl (!ds.any fun z => PyData.eqv z d)) H) := by
  intro pins s σ H x y v u Q I rx ry h
  obtain ⟨g1, g2, q⟩ := h
  obtain ⟨as, r1⟩ := Dp.reads I d x v g1 rx
  obtain ⟨bs, r2⟩ := Dp.reads I (.tuple ds) y u g2 ry
  exact SeqAt.notIn_tuple_data r2 r1 h1 hd (by omega) ⟨.bl _, H, I, rfl, q⟩
end
end Tk
set_option Elab.async false
set_option linter.all false
set_option maxRecDepth 100000
set_option maxHeartbeats 4000000
namespace Dl
open PySem PySem.Spec PyProof.Rows L2 Cn
theorem members_of {K : PySem.W.Frag} {S : AS} {H : Hp} : ∀ {Ks : List (List Str)} {xs : List V}, DnAll K S H xs (Ks.map tupK) → ∃ ms : List Tk.Mb, xs = ms.map (fun m => V.ref m.1) ∧ ms.map (·.2) = Ks ∧ ∀ m ∈ ms, Dn K S H (.ref m.1) (tupK m.2)
  | [], _, h => by cases h; exact ⟨[], rfl, rfl, fun m hm => nomatch hm⟩
  | k :: Ks, _, h => by
    cases h with
    | @cons v vs _ _ h1 h2 =>
      obtain ⟨ms, e1, e2, e3⟩ := members_of h2
      obtain ⟨a, rfl⟩ : ∃ a, v = .ref a := by cases h1; exact ⟨_, rfl⟩
      exact ⟨(a, k) :: ms, by rw [e1]; rfl, by rw [← e2]; rfl, fun m hm => by
        rcases List.mem_cons.mp hm with e | e
        · rw [e]; exact h1
        · exact e3 m e⟩
section
variable {F : Fm} {X : Cx} {δ : DE} {a b e : Expr} {pos p p2 pos2 px py spos : Pos} {x : Str} {R : Out} {rest : List Stmt}
/-- sorted(set(t)) -/
theorem vd_sortSet {Ks Kr : List (List Str)} (hu : X.A.units + 64 < cLine) (hm : X.mg "sorted" = none) (hm2 : X.mg "set" = none) (ha : VD F X a δ (.tuple (Ks.map tupK))) (less : Ks.length < 64) (hne : ∀ k ∈ Ks, k ≠ []) (hk : ∀ k, k ∈ Kr ↔ k ∈ Ks) (hasc : Kr.Pairwise fun a b => Tk.ltK a b = true)
    (hc : X.calm = true := by rfl) (hg : Gl X "sorted" := by rfl) (hg2 : Gl X "set" := by rfl) (hs1 : starEach [.Call (.Name "set" p2) [a] [] pos2] X.env = [(false, eval (.Call (.Name "set" p2) [a] [] pos2) X.env)] := by rfl) (hs2 : starEach [a] X.env = [(false, eval a X.env)] := by rfl) :
    VD F X (.Call (.Name "sorted" p) [.Call (.Name "set" p2) [a] [] pos2] [] pos) δ (.list (Kr.map tupK)) := fun σ H Q o s q => by
  refine (pe_callB (Tk.cr_sortK hc hu) hg hm (by decide +kernel) (pa_cons (pe_callTy (Tk.cr_setK hc hu) hg2 hm2 (by decide +kernel) (pa_cons (pe_sem X a) pa_nil hs2) (by decide) (by decide) hs2 rfl) pa_nil hs1) (by decide) (by decide) hs1 rfl).sem ?_
  refine ha σ H _ o s fun v H1 d e1 o1 n1 kd => ?_
  subst kd
  cases n1 with
  | @tup t xs _ sq al =>
    obtain ⟨ms, rfl, ek, hd⟩ := members_of al
    refine ⟨t, ms, rfl, sq.sq, fun m hm => sq_tupK (hd m hm), by rw [← ek, List.length_map] at less; exact less, fun D M hD sub nd all => ?_⟩
    have nw : Xt C0 H1 (upd H1 D (Tk.SetK X.prog X.w D M)) := .new hD
    have o2 := o1.mono nw
    have hd2 : ∀ m ∈ M, Dn X.K F.S (upd H1 D (Tk.SetK X.prog X.w D M)) (.ref m.1) (tupK m.2) := fun m hm => Dn.mono (C := C0) (fun _ _ z => z.elim) nw _ _ (hd m (sub m hm))
    have keys : ∀ k, k ∈ M.map (·.2) ↔ k ∈ Kr := fun k => by rw [all k, ek, hk k]
    refine ⟨D, M, rfl, upd_same, fun m hm => sq_tupK (hd2 m hm), fun m hm => hne _ (by rw [← hk, ← keys]; exact List.mem_map.mpr ⟨m, hm, rfl⟩), fun M' p' pm nd' lt asc hp => ?_⟩
    have ek' : M'.map (·.2) = Kr := Tk.asc_uniq (lt := Tk.ltK) ((pm.map (·.2)).trans ((List.perm_ext_iff_of_nodup nd (asc_nodup hasc)).mpr keys)) (asc.imp fun h => Tk.ltK_of h) hasc
    generalize upd H1 D (Tk.SetK X.prog X.w D M) = H2 at nw o2 hd2 hp ⊢
    have nw2 : Xt C0 H2 (upd H2 p' (.lst (M'.map fun m => V.ref m.1))) := .new hp
    refine q _ _ _ (e1.trans (nw.trans nw2).of0) (o2.mono nw2) (.lst ⟨o2.fresh hp, upd_same⟩ ?_) rfl
    rw [← ek', List.map_map]
    have go : ∀ l : List Tk.Mb, (∀ m ∈ l, m ∈ M) → DnAll X.K F.S (upd H2 p' (.lst (M'.map fun m => V.ref m.1))) (l.map fun m => V.ref m.1) (l.map (tupK ∘ fun m => m.2)) := by
      intro l
      induction l with
      | nil => exact fun _ => .nil
      | cons m l ih => exact fun hl => .cons (Dn.mono (C := C0) (fun _ _ z => z.elim) nw2 _ _ (hd2 m (hl m (.head _)))) (ih fun x hx => hl x (.tail _ hx))
    exact go M' fun m hm => pm.mem_iff.mp hm
/-- < of data of like shape -/
theorem vb_ltD {d d' : PyData} (hu : X.A.units + 64 < cLine) (ha : VD F X a δ d) (hb : VD F X b δ d') (al : PySem.W.alike d d' = true) (ne : d ≠ .none) (dp : min d.depth d'.depth ≤ 60) : VB F X (.Compare a [.Lt] [b] pos) δ (PySem.W.dataLt d d') :=
  vb_cmp (Tk.op_ltD hu) (nomark _) (fun S H vx vy Q _ hx hy q => ⟨d, d', Dn.dp _ _ hx, Dn.dp _ _ hy, al, ne, dp, q _ H (.refl H) (.bl _)⟩) ha hb
/-- x in t, x not in t -/
theorem vd_inT2 {d : PyData} {ds : List PyData} (hu : X.A.units + 64 < cLine) (ha : VD F X a δ d) (hb : VD F X b δ (.tuple ds)) (hd : d.plain = true) (h1 : PyData.plainAll ds = true) (h2 : PyData.depthAll ds ≤ 8) (hm : behindInMarks .In b = false := by rfl) : VD F X (.Compare a [.In] [b] pos) δ (.bool (ds.any fun z => PyData.eqv z d)) :=
  vd_cmp (Tk.op_inT2 hu h1 h2 hd) hm (fun S H vx vy Q _ hx hy q => ⟨Dn.dp _ _ hx, Dn.dp _ _ hy, q _ H (.refl H) (.bl _)⟩) ha hb
theorem vb_notinT2 {d : PyData} {ds : List PyData} (hu : X.A.units + 64 < cLine) (ha : VD F X a δ d) (hb : VD F X b δ (.tuple ds)) (hd : d.plain = true) (h1 : PyData.plainAll ds = true) (h2 : PyData.depthAll ds ≤ 8) (hm : behindInMarks .NotIn b = false := by rfl) : VB F X (.Compare a [.NotIn] [b] pos) δ (!ds.any fun z => PyData.eqv z d) :=
  vb_cmp (Tk.op_notinT2 hu h1 h2 hd) hm (fun S H vx vy Q _ hx hy q => ⟨Dn.dp _ _ hx, Dn.dp _ _ hy, q _ H (.refl H) (.bl _)⟩) ha hb
/-! a dict of tuples of texts, in a local name -/
/-- the dict at p stands -/
def Fm.wk (F : Fm) (K : PySem.W.Frag) (P : Program) (w : World) (p : Addr) (L : List Tk.Ent) : Fm := ⟨fun a => F.S a ∨ a = p, F.C, fun H => F.J H ∧ H p = some (Tk.DicK P w p L) ∧ ∀ x ∈ L, Dn K (fun a => F.S a ∨ a = p) H (.ref x.2.1) (tupK x.1), fun a o z => (F.sub a o z).imp .inl id,
  fun H H' e h => ⟨F.mono H H' e h.1, e.k p _ (fun z => z) h.2.1, fun x hx => Dn.mono (C := C0) (fun _ _ z => z.elim) e _ _ (h.2.2 x hx)⟩⟩
theorem soft_wk {K : PySem.W.Frag} {P : Program} {w : World} {p : Addr} {L : List Tk.Ent} (h : F.soft) : (F.wk K P w p L).soft := fun H H' e j => by
  refine ⟨h H H' (fun a o z => e a o (z.imp .inl id)) j.1, e p _ (.inl (.inr rfl)) j.2.1, fun x hx => ?_⟩
  have n := j.2.2 x hx
  have tx : ∀ {v : V} {d : PyData}, (∃ z, d = .str z) → Dn K (fun a => F.S a ∨ a = p) H v d → Dn K (fun a => F.S a ∨ a = p) H' v d := fun {v d} hz n => by
    obtain ⟨z, rfl⟩ := hz
    cases n
    exact .str _
  have txs : ∀ (zs : List Str) (xs : List V), DnAll K (fun a => F.S a ∨ a = p) H xs (txts zs) → DnAll K (fun a => F.S a ∨ a = p) H' xs (txts zs) := by
    intro zs
    induction zs with
    | nil => intro xs h; cases h; exact .nil
    | cons z zs ih => intro xs h; cases h with | cons h1 h2 => exact .cons (tx ⟨z, rfl⟩ h1) (ih _ h2)
  cases n with
  | tup sq al =>
    refine .tup ?_ (txs _ _ al)
    rcases sq with ⟨n1, ob, hd, hp⟩ | w
    · exact .inl ⟨n1, ob, hd, e _ _ (.inr fun xs z => by cases z) hp⟩
    · exact .inr w
/-- x = dict(l), l a list of pairs of a tuple of texts and True -/
theorem vs_dict (i : Nat) {Ks : List (List Str)} (hu : X.A.units + 64 < cLine) (hm : X.mg "dict" = none) (ha : VD F X a δ (.list (Ks.map fun k => .tuple [tupK k, .bool true])))
    (hr : ∀ q L, (∀ k, k ∈ L.map (·.1) ↔ k ∈ Ks) → VS (F.wk X.K X.prog X.w q L) X rest (δ.set i (some (.raw (.ref q)))) R) (hN : X.N.Nodup) (hi : X.N[i]? = some x := by rfl) (hx : Loc X.env.scope x := by first | exact Or.inl rfl | exact Or.inr rfl)
    (hs : swapsWith (.Call (.Name "dict" p) [a] [] pos) (some (.Name x px)) spos.line X.env = pure false := by rfl) (hf : X.fn x = true ∨ X.env.scope.names.lookup x = some .local := by first | exact .inl rfl | exact .inr rfl) (hc : X.calm = true := by rfl) (hg : Gl X "dict" := by rfl) (hs2 : starEach [a] X.env = [(false, eval a X.env)] := by rfl) :
    VS F X (.Assign [.Name x px] (.Call (.Name "dict" p) [a] [] pos) spos :: rest) δ R :=
  vs_by (ps_set hN hi hx (pe_callTy (Tk.cr_dictK hc hu) hg hm (by decide +kernel) (pa_cons (pe_sem X a) pa_nil hs2) (by decide) (by decide) hs2 rfl) hs hf) fun σ H D o s q => by
    refine ha σ H _ o s fun v H1 d e1 o1 n1 kd => ?_
    subst kd
    cases n1 with
    | @lst l xs _ sq al =>
      have ex : ∀ (Ks : List (List Str)) (xs : List V), DnAll X.K F.S H1 xs (Ks.map fun k => .tuple [tupK k, .bool true]) → ∃ (ts : List Addr) (ms : List Tk.Mb), xs = ts.map V.ref ∧ ms.map (·.2) = Ks ∧ ts.length = ms.length ∧ (∀ (j : Nat) t m, ts[j]? = some t → ms[j]? = some m → SqT X.K H1 t [V.ref m.1, V.bl true]) ∧ ∀ m ∈ ms, Dn X.K F.S H1 (.ref m.1) (tupK m.2) := by
        intro Ks
        induction Ks with
        | nil => intro xs h; cases h; exact ⟨[], [], rfl, rfl, rfl, fun j t m h => by simp at h, fun m hm => nomatch hm⟩
        | cons k Ks ih =>
          intro xs h
          cases h with
          | cons h1 h2 =>
            obtain ⟨ts, ms, a1, a2, a3, a4, a5⟩ := ih _ h2
            cases h1 with
            | @tup t ys _ sq2 al2 =>
              cases al2 with
              | @cons u us _ _ b1 b2 =>
                cases b2 with
                | cons b2 b3 =>
                  cases b3
                  cases b2
                  obtain ⟨c, rfl⟩ : ∃ c, u = .ref c := by cases b1; exact ⟨_, rfl⟩
                  refine ⟨t :: ts, (c, k) :: ms, by rw [a1]; rfl, by rw [← a2]; rfl, by rw [List.length_cons, List.length_cons, a3], fun j t' m h3 h4 => ?_, fun m hm => ?_⟩
                  · cases j with
                    | zero =>
                      simp at h3 h4
                      subst h3 h4
                      exact sq2.sq
                    | succ j => exact a4 j t' m (by simpa using h3) (by simpa using h4)
                  · rcases List.mem_cons.mp hm with e | e
                    · rw [e]; exact b1
                    · exact a5 m e
      obtain ⟨ts, ms, rfl, a2, a3, a4, a5⟩ := ex Ks xs al
      refine ⟨l, ts, ms, rfl, sq.sq, a3, a4, fun m hm => sq_tupK (a5 m hm), fun r L hr0 hL1 hL2 => ?_⟩
      have nw : Xt C0 H1 (upd H1 r (Tk.DicK X.prog X.w r L)) := .new hr0
      have nS : ∀ z, H1 z ≠ none → (F.S z ∨ z = r) → F.S z := fun z hz h => h.elim id fun e => absurd (e ▸ hr0) hz
      have ok' : (F.wk X.K X.prog X.w r L).ok (upd H1 r (Tk.DicK X.prog X.w r L)) := by
        refine ⟨⟨(o1.mono nw).1, upd_same, fun x hx => ?_⟩, fun z hz => ?_⟩
        · obtain ⟨m, hm, e3, e4⟩ := hL1 x hx
          rw [e3, e4]
          exact Dn.mono (S := fun a => F.S a ∨ a = r) (C := C0) (fun _ _ z => z.elim) nw _ _ (Dn.less (T := fun a => F.S a ∨ a = r) nS _ _ (a5 m hm))
        · rcases hz with hz | hz
          · exact (o1.mono nw).2 z hz
          · rw [hz, upd_same]; exact fun z => by cases z
      refine hr r L (fun k => by rw [hL2 k, a2]) (σ.set i (some (.ref r))) _ D ok' ((((o.all s e1).less (T := fun a => F.S a ∨ a = r) nS).mono (C := C0) (fun _ _ z => z.elim) nw).set (s := .raw (.ref r)) i rfl) ?_
      have q1 := q.mono (e1.trans nw.of0)
      have less : ∀ {H' : Hp} (z : Addr), H' z ≠ none → F.S z → (F.wk X.K X.prog X.w r L).S z := fun z _ h => .inl h
      exact ⟨fun σ' H' δ' e o' s' h => q1.nx σ' H' δ' e ⟨o'.1.1, fun z hz => o'.2 z (.inl hz)⟩ (s'.less less) h, fun σ' H' δ' e o' s' h => q1.bk σ' H' δ' e ⟨o'.1.1, fun z hz => o'.2 z (.inl hz)⟩ (s'.less less) h,
        fun σ' H' δ' e o' s' h => q1.ct σ' H' δ' e ⟨o'.1.1, fun z hz => o'.2 z (.inl hz)⟩ (s'.less less) h, fun v H' d e o' n h => q1.rt v H' d e ⟨o'.1.1, fun z hz => o'.2 z (.inl hz)⟩ (Dn.less less _ _ n) h⟩
/-- e not in x, x a name that holds such a dict -/
theorem vb_notinK (i : Nat) {q : Addr} {L : List Tk.Ent} {k : List Str} {S : AS} (hu : X.A.units + 64 < cLine) (hJ : ∀ H, F.J H → H q = some (Tk.DicK X.prog X.w q L) ∧ ∀ x ∈ L, Dn X.K S H (.ref x.2.1) (tupK x.1)) (ha : VD F X a δ (tupK k)) (hd : δ[i]? = some (some (.raw (.ref q))) := by rfl) (hN : X.N[i]? = some x := by rfl)
    (hv : Vis X.env.scope x := by first | exact Or.inl rfl | exact Or.inr (Or.inl rfl) | exact Or.inr (Or.inr rfl)) (hdb : (x == ("__debug__" : Str)) = false := by decide) (hcd : (x == ("__classdict__" : Str)) = false := by decide) :
    VB F X (.Compare a [.NotIn] [.Name x px] pos) δ (!decide (k ∈ L.map (·.1))) := fun σ H Q o s q' => by
  refine (pt_cmpR (Tk.op_notinK hu) (pe_sem X a) (pe_var hN hv hdb hcd) rfl).sem (ha σ H _ o s fun v H1 d e1 o1 n1 kd => ?_)
  subst kd
  obtain ⟨u, h1, h2⟩ := (o.all s e1).at_ i _ hd
  have h2' : u = .ref q := h2
  subst h2'
  obtain ⟨c, rfl⟩ : ∃ c, v = .ref c := by cases n1; exact ⟨_, rfl⟩
  obtain ⟨j1, j2⟩ := hJ H1 o1.1
  exact ⟨_, h1, c, q, k, L, rfl, rfl, sq_tupK n1, j1, fun x hx => sq_tupK (j2 x hx), _, rfl, q' _ H1 e1 o1 rfl⟩
end
/-! ### [.. for a, b in ..] -/
theorem wipe_set1 {τ : L2.St} {ws : List Nat} {j : Nat} {v : Option V} (h : j ∈ ws) : wipe (τ.set j v) ws = wipe τ ws := by
  refine List.ext_getElem? fun i => ?_
  rw [wipe_at, wipe_at]
  by_cases hi : i ∈ ws
  · rw [if_pos hi, if_pos hi, List.getElem?_set]
    by_cases e : j = i
    · subst e
      rw [if_pos rfl]
      by_cases hl : j < τ.length
      · rw [if_pos hl, List.getElem?_eq_getElem hl]; rfl
      · rw [if_neg hl, List.getElem?_eq_none (by omega)]
    · rw [if_neg e]
  · have e : j ≠ i := fun z => hi (z ▸ h)
    rw [if_neg hi, if_neg hi, List.getElem?_set_ne e]
theorem wipe_idem {σ : L2.St} {ws : List Nat} : wipe (wipe σ ws) ws = wipe σ ws := by
  refine List.ext_getElem? fun i => ?_
  rw [wipe_at, wipe_at]
  by_cases hi : i ∈ ws
  · rw [if_pos hi, if_pos hi]; cases σ[i]? <;> rfl
  · rw [if_neg hi, if_neg hi]
section
variable {F : Fm} {X : Cx} {δ : DE} {elt iter : Expr} {scope : Scope} {pos px py pt : Pos} {x y : Str} {kt : Nat}
theorem vd_lcPair (j l : Nat) {ps : List (PyData × PyData)} (g : PyData → PyData → PyData) (hi : VI F X (.Tuple [.Name x px, .Name y py] kt pt) iter δ fun xs => xs = ps.map fun p => .tuple [p.1, p.2]) (hl : ps.length ≤ 100000)
    (he : ∀ p ∈ ps, ∀ (E : Addr) (s : Shared) (H : Hp) (C : Addr) (cl : List (Str × Addr)) (fp : List Addr), VD (F.more E) (X.blk s H scope (compEnvC scope cl C X.env) fp) elt ((δ.set j (some (.dat p.1))).set l (some (.dat p.2))) (g p.1 p.2)) (hf : freeB δ [j, l] = true)
    (hN : X.N.Nodup) (ok : BlkOk X.N X.env.scope scope [(x, j), (y, l)]) (hg : ∀ (s : Shared) (H : Hp) (C : Addr) (cl : List (Str × Addr)) (fp : List Addr), PG (X.blk s H scope (compEnvC scope cl C X.env) fp) (.Tuple [.Name x px, .Name y py] kt pt) (gTup X.K 2 (gCons (gName j) (gCons (gName l) gNil))))
    (hc : X.calm = true := by rfl) (hs : ∀ x, foldedSetIterable iter X.env x = pure x := by intro _; rfl) (hsf : F.soft := by first | exact Fm.soft_pure | assumption | exact HasRow.soft (by assumption)) :
    VD F X (.ListComp elt [⟨.Tuple [.Name x px, .Name y py] kt pt, iter, [], 0⟩] scope pos) δ (.list (ps.map fun p => g p.1 p.2)) := fun σ H Q o s q => by
  refine (pe_lc (own := [(x, j), (y, l)]) (g := gTup X.K 2 (gCons (gName j) (gCons (gName l) gNil))) (tt := tYes) (te := fun σ H Q => ∀ (s : Shared) (H' : Hp) (C : Addr) (cl : List (Str × Addr)) (fp : List Addr), semE (X.blk s H' scope (compEnvC scope cl C X.env) fp) elt σ H Q)
    hc hN (pi_sem X _ iter) ok hg (fun _ _ _ _ _ => pts_nil) (fun s H C cl fp => ⟨fun pins sh σ H' Q I h => h s H C cl fp pins sh I⟩) hs).sem ?_
  refine hi σ H _ o s fun J H1 ds e1 o1 wk kd D hD => ?_
  subst kd
  have nD : ¬ F.S D := o1.fresh hD
  have s1 := o.all s e1
  have hmore : ∀ a, H1 a ≠ none → (F.more D).S a → F.S a := fun a ha z => z.elim id fun e => absurd (e ▸ hD) ha
  have hsub : ∀ a o, F.C a o → (F.more D).S a ∨ Tb o := fun a o z => (F.sub a o z).imp .inl id
  refine ⟨fun i m H' => m = ps.length - i ∧ i ≤ ps.length ∧ Xt F.C H1 H' ∧ Mk F X.K D H' ((ps.take i).map fun p => g p.1 p.2), ⟨_, rfl, Nat.zero_le _, .new hD, o1.mono (.new hD), [], upd_same, by rw [List.take_zero]; exact .nil⟩, ?_⟩
  rintro i m H' ⟨rfl, hle, e2, mk⟩
  have len : (ps.map fun p => PyData.tuple [p.1, p.2]).length = ps.length := List.length_map ..
  by_cases hlt : i < ps.length
  · refine .inr ⟨wk.go i H' e2 (by rw [len]; exact hlt), fun H3 => Xt F.C H1 H3 ∧ Mk F X.K D H3 ((ps.take (i + 1)).map fun p => g p.1 p.2), fun H3 h3 => ⟨_, by omega, rfl, hlt, h3⟩, fun v H3 hy => ?_⟩
    obtain ⟨e3, n3⟩ := wk.yld (F.more D).S hsub hmore i H' v H3 e2 hy
    have hd : ps[i]? = some ps[i] := List.getElem?_eq_getElem hlt
    have hm : ps[i] ∈ ps := List.getElem_mem hlt
    have tk : ps.take (i + 1) = ps.take i ++ [ps[i]] := by rw [List.take_add_one, hd]; rfl
    have n4 := n3 (.tuple [ps[i].1, ps[i].2]) (by rw [List.getElem?_map, hd]; rfl)
    have mk3 : Mk F X.K D H3 ((ps.take i).map fun p => g p.1 p.2) := mk.same nD e3.of0 (mk.ok.mono e3)
    have s3 : StD X.K (F.more D).S H3 σ δ := (s1.less hmore).mono hsub (e2.trans e3.of0)
    cases n4 with
    | @tup c ys _ sq al =>
      cases al with
      | @cons v1 _ _ _ b1 b2 =>
        cases b2 with
        | @cons v2 _ _ _ b2 b3 =>
          cases b3
          refine ⟨c, _, rfl, sq.sq, rfl, v1, [v2], rfl, v2, [], rfl, rfl, ?_⟩
          show wipe (((wipe σ [j, l]).set j (some v1)).set l (some v2)) [j, l] = wipe σ [j, l] ∧ _
          refine ⟨by rw [wipe_set1 (by simp), wipe_set1 (by simp), wipe_idem], ?_⟩
          simp only [tYes, if_true]
          intro sh Hs C cl fp
          refine he _ hm D sh Hs C cl fp _ H3 _ mk3.mok (((std_wipe s3 hf).setD j b1).setD l b2) fun w H4 d e4 o4 n5 kd => ?_
          subst kd
          have mk4 := mk3.same nD e4 o4.less
          obtain ⟨acc, a1, a2⟩ := mk4.ex
          have la := a2.length
          rw [List.length_map, List.length_take] at la
          have eu : Xt (fun a _ => (F.more D).S a) H4 (upd H4 D (.lst (acc ++ [w]))) := .put (.inl fun _ => .inr rfl)
          refine ⟨acc, a1, Nat.lt_of_le_of_lt (show acc.length ≤ 100000 by omega) (by decide), ((e2.trans e3.of0).trans e4).put2 hD, ?_, acc ++ [w], upd_same, ?_⟩
          · refine Fm.ok.same hsf mk4.ok fun a u sa hu => ?_
            have ne : a ≠ D := fun z => by
              subst z
              rcases sa with sa | sa
              · exact nD sa
              · rw [a1] at hu
                exact sa acc (Option.some.inj hu).symm
            rw [upd_ne ne]
            exact hu
          · rw [tk, List.map_append]
            exact DnAll.append (Dn.monoAll (S := (F.more D).S) (fun _ _ z => .inl z) eu _ _ a2) (.cons (Dn.mono (S := (F.more D).S) (fun _ _ z => .inl z) eu _ _ n5) .nil)
  · have ei : i = ps.length := by omega
    subst ei
    rw [List.take_length] at mk
    obtain ⟨acc, a1, a2⟩ := mk.ex
    have st := wk.stop H' e2
    rw [len] at st
    exact .inl ⟨st, q _ H' _ (e1.trans e2) mk.ok (.lst ⟨nD, a1⟩ (Dn.lessAll (fun a _ z => .inl z) _ _ a2)) rfl⟩
end
end Dl
set_option Elab.async false
set_option linter.all false
set_option maxRecDepth 100000
set_option maxHeartbeats 4000000
/-! Fx: every format's profile is one of the first formats'; what law k06 asks of formats -/
namespace Fx
open PySem PySem.Spec PyProof.Rows L2 Dl
def rowF (p : Nat) (l : Int) (e : Nat) : List Form := [Mode.away, .down, .even, .up, .zero].flatMap fun m => [false, true].flatMap fun g => [true, false].map fun i => ⟨p, l, e, m, g, i⟩
theorem someF_rows (p : Nat) (lows : List Int) (spans : List Nat) : someF p lows spans = lows.flatMap fun l => spans.flatMap fun e => rowF p l e := rfl
theorem mem_row {p : Nat} {l : Int} {e : Nat} {f : Form} : f ∈ rowF p l e ↔ f.p = p ∧ f.low = l ∧ f.e = e := by
  constructor
  · intro h
    obtain ⟨m, _, h⟩ := List.mem_flatMap.mp h
    obtain ⟨g, _, h⟩ := List.mem_flatMap.mp h
    obtain ⟨i, _, rfl⟩ := List.mem_map.mp h
    exact ⟨rfl, rfl, rfl⟩
  · rintro ⟨rfl, rfl, rfl⟩
    obtain ⟨p, l, e, m, g, i⟩ := f
    refine List.mem_flatMap.mpr ⟨m, by cases m <;> simp, List.mem_flatMap.mpr ⟨g, by cases g <;> simp, List.mem_map.mpr ⟨i, by cases i <;> simp, rfl⟩⟩⟩
theorem mem_some {p : Nat} {lows : List Int} {spans : List Nat} {f : Form} : f ∈ someF p lows spans ↔ f.p = p ∧ f.low ∈ lows ∧ f.e ∈ spans := by
  rw [someF_rows]
  simp only [List.mem_flatMap, mem_row]
  constructor
  · rintro ⟨l, hl, e, he, h1, h2, h3⟩
    exact ⟨h1, h2 ▸ hl, h3 ▸ he⟩
  · rintro ⟨h1, h2, h3⟩
    exact ⟨_, h2, _, h3, h1, rfl, rfl⟩
/-- the first format with the same profile -/
def nfE (f : Form) : Nat := if f.e = 0 then 0 else if f.e ≤ 1 then 1 else if f.e ≤ f.p - 1 then 2 else if f.e ≤ f.p then 4 else 5
def nfL (f : Form) : Int := if f.g then (if f.low < -1 then -40 else if f.low = -1 then -1 else 0) else if f.low + f.p - 1 < -1 then -40 else if f.low + f.p - 1 = -1 then -4 else -3
def nf (f : Form) : Form := ⟨4, nfL f, nfE f, f.mode, f.g, f.inf⟩
theorem nf_in (f : Form) : nf f ∈ firstF := by
  refine mem_some.mpr ⟨rfl, ?_, ?_⟩
  · show nfL f ∈ _
    unfold nfL
    split
    · split
      · simp
      · split <;> simp
    · split
      · simp
      · split <;> simp
  · show nfE f ∈ _
    unfold nfE
    repeat (first | (split; simp) | simp)
theorem nf_holds {f : Form} (ok : f.Ok) (r : Rule) : holdsM (nf f) r = holdsM f r := by
  have p4 := ok.p4
  have e0 : decide (nfE f = 0) = decide (f.e = 0) := by
    unfold nfE
    rw [Bool.eq_iff_iff, decide_eq_true_eq, decide_eq_true_eq]
    split
    · simp [*]
    · split
      · simp_all
      · split
        · simp_all
        · split <;> simp_all
  have e1 : decide (nfE f ≤ 1) = decide (f.e ≤ 1) := by
    unfold nfE
    rw [Bool.eq_iff_iff, decide_eq_true_eq, decide_eq_true_eq]
    split
    · omega
    · split
      · omega
      · split
        · omega
        · split <;> omega
  have e2 : decide (nfE f ≤ 4 - 1) = decide (f.e ≤ f.p - 1) := by
    unfold nfE
    rw [Bool.eq_iff_iff, decide_eq_true_eq, decide_eq_true_eq]
    split
    · omega
    · split
      · omega
      · split
        · omega
        · split <;> omega
  have e3 : decide (nfE f ≤ 4) = decide (f.e ≤ f.p) := by
    unfold nfE
    rw [Bool.eq_iff_iff, decide_eq_true_eq, decide_eq_true_eq]
    split
    · omega
    · split
      · omega
      · split
        · omega
        · split <;> omega
  have e4 : decide (nfE f ≤ 0) = decide (f.e ≤ 0) := by
    have := e0
    simpa using this
  cases r with
  | sumSign => rfl
  | zeroDiff => rfl
  | closeDiff => rfl
  | errTerm => show (f.g && _ && (f.mode.near || decide (nfE f ≤ 4))) = _; rw [e3]; rfl
  | fastErr => show (f.g && _ && (f.mode.near || decide (nfE f ≤ 4))) = _; rw [e3]; rfl
  | symm => show (_ || (f.g && !f.inf && decide (nfE f = 0))) = _; rw [e0]; rfl
  | midp => rfl
  | aver => rfl
  | addBack => show (f.g && decide (nfE f = 0)) = _; rw [e0]; rfl
  | group => show decide (nfE f = 0) = _; rw [e0]; rfl
  | absorb =>
    show (f.mode.near && f.inf && decide (nfE f ≤ if f.g then 0 else 4 - 1)) = (f.mode.near && f.inf && decide (f.e ≤ if f.g then 0 else f.p - 1))
    cases f.g with
    | true => show (_ && decide (nfE f ≤ 0)) = (_ && decide (f.e ≤ 0)); rw [e4]
    | false => show (_ && decide (nfE f ≤ 4 - 1)) = (_ && decide (f.e ≤ f.p - 1)); rw [e2]
  | third =>
    show decide (nfE f ≤ if f.mode.near then 1 else 0) = decide (f.e ≤ if f.mode.near then 1 else 0)
    cases f.mode.near with
    | true => exact e1
    | false => exact e4
  | halves => rfl
  | squares =>
    show (f.mode == .up || decide ((if f.mode == .away then (-1 : Int) else 0) ≤ if f.g then nfL f else nfL f + 4 - 1)) = (f.mode == .up || decide ((if f.mode == .away then (-1 : Int) else 0) ≤ if f.g then f.low else f.low + f.p - 1))
    congr 1
    rw [Bool.eq_iff_iff, decide_eq_true_eq, decide_eq_true_eq]
    unfold nfL
    cases f.g with
    | true =>
      simp only [if_true]
      split <;> (split <;> first | omega | (split <;> omega))
    | false =>
      simp only [Bool.false_eq_true, if_false]
      split <;> (split <;> first | omega | (split <;> omega))
theorem prf_nf {f : Form} (ok : f.Ok) : prf (nf f) = prf f := List.filter_congr fun r _ => nf_holds ok r
theorem prf_in {f : Form} (ok : f.Ok) : prf f ∈ profs := by rw [← prf_nf ok]; exact profs_in _ (nf_in f)
theorem mem_prf {f : Form} {r : Rule} : r ∈ prf f ↔ holdsM f r = true := by unfold prf; rw [List.mem_filter]; exact ⟨fun z => z.2, fun z => ⟨Rule.mem r, z⟩⟩
def partP (r q : Rule) (k : List Rule) : Bool := decide (r ∈ k) && !decide (q ∈ k)
theorem part_prf (r q : Rule) (f : Form) : (holdsM f r && !holdsM f q) = partP r q (prf f) := by
  have e : ∀ r, decide (r ∈ prf f) = holdsM f r := fun r => by rw [Bool.eq_iff_iff, decide_eq_true_eq, mem_prf]
  unfold partP
  rw [e, e]
/-- formats whose profiles are all there are -/
def Full (fs : List Form) : Prop := (∀ f ∈ fs, f.Ok) ∧ ∀ k ∈ profs, ∃ f ∈ fs, prf f = k
theorem full_any {fs gs : List Form} (h1 : Full fs) (h2 : Full gs) (r q : Rule) : (fs.any fun f => holdsM f r && !holdsM f q) = gs.any fun f => holdsM f r && !holdsM f q := by
  have go : ∀ {fs gs : List Form}, Full fs → Full gs → (fs.any fun f => holdsM f r && !holdsM f q) = true → (gs.any fun f => holdsM f r && !holdsM f q) = true := fun {fs gs} h1 h2 h => by
    obtain ⟨f, hf, e⟩ := List.any_eq_true.mp h
    rw [part_prf] at e
    obtain ⟨g, hg, eg⟩ := h2.2 _ (prf_in (h1.1 f hf))
    exact List.any_eq_true.mpr ⟨g, hg, by rw [part_prf, eg]; exact e⟩
  rw [Bool.eq_iff_iff]
  exact ⟨go h1 h2, go h2 h1⟩
theorem first_full : Full firstF := ⟨firstF_ok, profs_of⟩
def lows8 : List Int := [-40, -10, -9, -5, -4, -3, -1, 0]
theorem some_ok {p : Nat} {lows : List Int} (h1 : 4 ≤ p) (h2 : p ≤ 10) (h3 : ∀ l ∈ lows, -40 ≤ l ∧ l ≤ 20) : ∀ f ∈ someF p lows (List.range 21), f.Ok := someF_ok h1 h2 h3 fun e he => by have := List.mem_range.mp he; omega
theorem att_of {p : Nat} {lows : List Int} {spans : List Nat} (h : (profs.all fun k => (someF p lows spans).any fun f => prf f == k) = true) (hs : ∀ e ∈ spans, e < 21) : ∀ k ∈ profs, ∃ f ∈ someF p lows (List.range 21), prf f = k := by
  intro k hk
  obtain ⟨f, hf, e⟩ := List.any_eq_true.mp (List.all_eq_true.mp h k hk)
  obtain ⟨a, b, c⟩ := mem_some.mp hf
  exact ⟨f, mem_some.mpr ⟨a, b, List.mem_range.mpr (hs _ c)⟩, by simpa using e⟩
theorem full8 {p : Nat} (hp : p = 4 ∨ p = 5 ∨ p = 10) : Full (someF p lows8 (List.range 21)) := by
  refine ⟨some_ok (by omega) (by omega) (by decide), ?_⟩
  rcases hp with rfl | rfl | rfl
  · exact att_of (spans := [0, 1, 2, 4, 5]) (by decide +kernel) (by decide)
  · exact att_of (spans := [0, 1, 2, 5, 6]) (by decide +kernel) (by decide)
  · exact att_of (spans := [0, 1, 2, 10, 11]) (by decide +kernel) (by decide)
/-- no format before the first that parts two rules does so -/
theorem least_parts : (Rule.all.all fun r => Rule.all.all fun q => match firstF.find? fun f => holdsM f r && !holdsM f q with
    | none => true
    | some f => f.p == 4 && (someF 4 [-40] (List.range 21)).all fun g => !((holdsM g r && !holdsM g q) && PySem.W.dataLt (encF g) (encF f))) = true := by decide +kernel
theorem alike_fmt (f g : Form) : PySem.W.alike (encF f) (encF g) = true := by
  show PySem.W.alike (.tuple [.int _, .int _, .int _, .str _, .str _, .str _]) (.tuple [.int _, .int _, .int _, .str _, .str _, .str _]) = true
  simp [PySem.W.alike, PySem.W.alikeAll]
theorem lay_fmt (f : Form) : PyData.canLay0 (encF f) = true ∧ PyData.depth (encF f) = 1 := by
  obtain ⟨p, l, e, m, g, i⟩ := f
  refine ⟨?_, rfl⟩
  have h : ∀ m : Mode, PyData.canLay0 (.str m.s) = true := fun m => by cases m <;> decide +kernel
  have h1 : ∀ g, PyData.canLay0 (.str (tinyS g)) = true := fun g => by cases g <;> decide +kernel
  have h2 : ∀ g, PyData.canLay0 (.str (hugeS g)) = true := fun g => by cases g <;> decide +kernel
  show PyData.canLay0 (.tuple [.int _, .int _, .int _, .str _, .str _, .str _]) = true
  simp only [PyData.canLay0, PyData.canLayAll0] at h h1 h2 ⊢
  simp [h, h1, h2]
theorem lay_fmts : ∀ fs : List Form, PyData.canLayAll0 (fs.map encF) = true ∧ PyData.depthAll (fs.map encF) ≤ 1
  | [] => ⟨rfl, by decide⟩
  | f :: fs => by
    obtain ⟨h1, h2⟩ := lay_fmts fs
    obtain ⟨h3, h4⟩ := lay_fmt f
    refine ⟨?_, ?_⟩
    · show (PyData.canLay0 (encF f) && PyData.canLayAll0 (fs.map encF)) = true
      rw [h1, h3]; rfl
    · show max (PyData.depth (encF f)) (PyData.depthAll (fs.map encF)) ≤ 1
      omega
theorem shaped_fmts (fs : List Form) : SeqAt.shaped (.list (fs.map encF)) = true := by
  obtain ⟨h1, h2⟩ := lay_fmts fs
  show (PyData.canLayAll0 (fs.map encF) && decide (PyData.depthAll (fs.map encF) + 1 ≤ 64)) = true
  rw [h1, decide_eq_true (by omega)]; rfl
theorem eqv_fmts (fs : List Form) : PyData.eqv (.list (fs.map encF)) (.list []) = fs.isEmpty := by cases fs <;> rfl
/-- a test of formats as a test of data -/
def onF (p : Form → Bool) : PyData → Bool := fun d => p (decF d)
theorem onF_enc (p : Form → Bool) (f : Form) : onF p (encF f) = p f := by unfold onF; rw [decF_enc]
theorem filter_onF (p : Form → Bool) (fs : List Form) : ((fs.map encF).filter (onF p)).map id = (fs.filter p).map encF := by
  rw [List.map_id, List.filter_map]
  congr 1
  exact List.filter_congr fun f _ => onF_enc p f
theorem empty_any {α : Type} (p : α → Bool) (l : List α) : (l.filter p).isEmpty = !l.any p := by
  rw [Bool.eq_iff_iff, List.isEmpty_iff, List.filter_eq_nil_iff, Bool.not_eq_true', List.any_eq_false]
theorem isNone_any {α : Type} (p : α → Bool) (l : List α) : (l.find? p).isNone = !l.any p := by
  rw [Bool.eq_iff_iff, Option.isNone_iff_eq_none, List.find?_eq_none, Bool.not_eq_true', List.any_eq_false]
end Fx
set_option Elab.async false
set_option linter.all false
set_option maxRecDepth 100000
set_option maxHeartbeats 4000000
/-! Fx: the law's own formats -/
namespace Fx
open PySem PySem.Spec PyProof.Rows L2 Dl
theorem some_len (p : Nat) (lows : List Int) (spans : List Nat) : (someF p lows spans).length = lows.length * (spans.length * 20) := by
  rw [someF_rows]
  have h1 : ∀ l : Int, ∀ spans : List Nat, (spans.flatMap fun e => rowF p l e).length = spans.length * 20 := by
    intro l spans
    induction spans with
    | nil => simp
    | cons e s ih => rw [List.flatMap_cons, List.length_append, ih, List.length_cons, show (rowF p l e).length = 20 from rfl]; omega
  induction lows with
  | nil => simp
  | cons l ls ih => rw [List.flatMap_cons, List.length_append, ih, h1, List.length_cons, Nat.add_mul, Nat.one_mul]; omega
/-- the pairs of _law_kinds -/
def pairsD : List (PyData × PyData) := [(.str (tinyS false), .str (hugeS true)), (.str (tinyS false), .str (hugeS false)), (.str (tinyS true), .str (hugeS true)), (.str (tinyS true), .str (hugeS false))]
def kindsOf (m : PyData) : List PyData := pairsD.map fun p => .tuple [m, p.1, p.2]
def kindsD : List PyData := (txts modeD).flatMap kindsOf
def kindF (p : Nat) (l : Int) (e : Nat) : PyData → PyData
  | .tuple ks => .tuple ([.int p, .int l, .int (l + e)] ++ ks)
  | _ => .none
theorem kinds_row (p : Nat) (l : Int) (e : Nat) : kindsD.map (kindF p l e) = (rowF p l e).map encF := rfl
theorem kinds_tup {d : PyData} (h : d ∈ kindsD) : ∃ a b c, d = .tuple [a, b, c] := by
  obtain ⟨m, _, h⟩ := List.mem_flatMap.mp h
  obtain ⟨q, _, rfl⟩ := List.mem_map.mp h
  exact ⟨_, _, _, rfl⟩
theorem kinds_take_len (i : Nat) : (((txts modeD).take i).flatMap kindsOf).length ≤ 20 := by
  have h : ∀ ms : List PyData, (ms.flatMap kindsOf).length = ms.length * 4 := by
    intro ms
    induction ms with
    | nil => rfl
    | cons m ms ih => rw [List.flatMap_cons, List.length_append, ih, List.length_cons, show (kindsOf m).length = 4 from rfl]; omega
  rw [h, List.length_take]
  have : (txts modeD).length = 5 := rfl
  omega
theorem flat_take {α β : Type} {g : α → List β} {l : List α} {i : Nat} {x : α} (h : l[i]? = some x) : (l.take (i + 1)).flatMap g = (l.take i).flatMap g ++ g x := by
  rw [List.take_add_one, h, List.flatMap_append]
  simp
theorem flat_len {α β : Type} {g : α → List β} {n : Nat} (hg : ∀ x, (g x).length = n) : ∀ l : List α, (l.flatMap g).length = l.length * n
  | [] => by simp
  | x :: l => by rw [List.flatMap_cons, List.length_append, flat_len hg l, hg, List.length_cons, Nat.add_mul, Nat.one_mul]; omega
def spanF (p : Nat) (l : Int) : List Form := (List.range 21).flatMap (rowF p l)
theorem spanF_len (p : Nat) (l : Int) : (spanF p l).length = 420 := by
  unfold spanF
  rw [flat_len (n := 20) (fun _ => rfl)]
  rfl
theorem rngD_at {n j : Nat} {d : PyData} (h : (rngD 0 n)[j]? = some d) : j < n ∧ d = .int (j : Int) := by
  have h1 := (List.getElem?_eq_some_iff.mp h).1
  rw [rngD_len] at h1
  refine ⟨h1, ?_⟩
  rw [rngD_get h]
  exact congrArg PyData.int (by omega)
/-- a or b, a a test that may answer either way -/
theorem ve_orT {F : Fm} {X : Cx} {δ : DE} {a b : Expr} {rest : List Expr} {pos : Pos} {k : PyData → Prop} (ha : VE F X a δ fun d => ∃ x, d = .bool x ∧ (x = true → k (.bool true)) ∧ (x = false → VE F X (.BoolOp .Or (b :: rest) pos) δ k)) : VE F X (.BoolOp .Or (a :: b :: rest) pos) δ k := fun σ H Q o s q =>
  (pe_or (pe_sem X a) (pe_sem X _)).sem (ha σ H _ o s fun vx H1 dx e1 o1 nx ⟨x, kx, h1, h2⟩ => by
    subst kx
    refine ⟨x, nx.sc rfl, ?_⟩
    cases x with
    | true => exact q _ H1 _ e1 o1 (.bl _) (h1 rfl)
    | false => exact h2 rfl σ H1 Q o1 (o.all s e1) fun v H2 d e2 o2 n kd => q v H2 d (e1.trans e2) o2 n kd)
theorem eqv_self (ws : List Rule) : PyData.eqv (.tuple (rulesD ws)) (.tuple (rulesD ws)) = true := by
  have go : ∀ ws : List Rule, PyData.eqvAll (rulesD ws) (rulesD ws) = true := by
    intro ws
    induction ws with
    | nil => rfl
    | cons r ws ih =>
      show (PyData.eqv (.str r.s) (.str r.s) && PyData.eqvAll (rulesD ws) (rulesD ws)) = true
      rw [ih, Bool.and_true]
      simp [PyData.eqv]
  exact go ws
def profsD : List PyData := profs.map fun ws => .tuple (rulesD ws)
theorem any_profs {f : Form} (ok : f.Ok) : (profsD.any fun z => PyData.eqv z (.tuple (rulesD (prf f)))) = true := List.any_eq_true.mpr ⟨_, List.mem_map.mpr ⟨_, prf_in ok, rfl⟩, eqv_self _⟩
theorem profsD_tup : profsD = (profs.map keyR).map tupK := by
  unfold profsD
  rw [List.map_map]
  exact List.map_congr_left fun ws _ => (tupK_key ws).symm
theorem plain_rules (ws : List Rule) : PyData.plain (.tuple (rulesD ws)) = true := by
  have go : ∀ ws : List Rule, PyData.plainAll (rulesD ws) = true := by
    intro ws
    induction ws with
    | nil => rfl
    | cons r ws ih => exact ih
  exact go ws
theorem profsD_plain : PyData.plainAll profsD = true := by decide +kernel
theorem profsD_depth : PyData.depthAll profsD ≤ 8 := by decide +kernel
theorem profs_shaped : SeqAt.shaped (.list profsD) = true := by decide +kernel
theorem profs_eqv : PyData.eqv (.list profsD) (.list profsD) = true := by decide +kernel
/-- the first that parts two rules is the least of a row -/
theorem near_none {r q : Rule} {f : Form} (h : firstF.find? (fun f => holdsM f r && !holdsM f q) = some f) : f.p = 4 ∧ ∀ g ∈ someF 4 [-40] (List.range 21), (PySem.W.dataLt (encF g) (encF f) && (holdsM g r && !holdsM g q)) = false := by
  have h1 := List.all_eq_true.mp (List.all_eq_true.mp least_parts r (Rule.mem r)) q (Rule.mem q)
  rw [h] at h1
  simp only [Bool.and_eq_true, beq_iff_eq] at h1
  refine ⟨h1.1, fun g hg => ?_⟩
  have := List.all_eq_true.mp h1.2 g hg
  rw [Bool.not_eq_true'] at this
  rw [Bool.and_comm]; exact this
def lowsA : List Int := [-40, -3, -1, -4, 0]
def lowsB : List Int := [-40, -9, -1, 0]
def shownF : List Form := someF 4 lowsA (List.range 21) ++ someF 9 lowsB (List.range 21)
theorem shown_len : shownF.length = 3780 := by
  unfold shownF
  rw [List.length_append, some_len, some_len]
  rfl
theorem shown_full : Full shownF := by
  refine ⟨fun f hf => ?_, fun k hk => ?_⟩
  · rcases List.mem_append.mp hf with h | h
    · exact some_ok (by decide) (by decide) (by decide) f h
    · exact some_ok (by decide) (by decide) (by decide) f h
  · obtain ⟨f, hf, e⟩ := att_of (p := 4) (lows := lowsA) (spans := [0, 1, 2, 4, 5]) (by decide +kernel) (by decide) k hk
    exact ⟨f, List.mem_append_left _ hf, e⟩
end Fx
set_option Elab.async false
set_option linter.all false
set_option maxRecDepth 100000
set_option exponentiation.threshold 5000
/-! Fx: the rounding of a root, by its whole part and a sticky bit -/
namespace Fx
open PySem Dl
end Fx
set_option Elab.async false
set_option linter.all false
set_option maxRecDepth 100000
set_option maxHeartbeats 4000000
set_option exponentiation.threshold 5000
namespace T
open PySem PySem.Spec PyProof.Rows L2 Dl Fx
def topS (i : Nat) : Stmt := PySem.Challenge.pw_rulesheld_k06_whole_profiles.main.body.getD i (.Pass ⟨0, 0, 0, 0⟩)
abbrev s_is_within : Stmt := topS 12
theorem sc_is_within : FnScope ["value", "least", "greatest"] ["value", "least", "greatest"] (defScope s_is_within) := ⟨rfl, rfl, rfl, by decide +kernel, rfl, by decide +kernel, by decide +kernel⟩
abbrev s_is_format : Stmt := topS 13
theorem sc_is_format : FnScope ["value", "p", "low", "high", "mode", "tiny", "huge"] ["value"] (defScope s_is_format) := ⟨rfl, rfl, rfl, by decide +kernel, rfl, by decide +kernel, by decide +kernel⟩
abbrev s_require_format : Stmt := topS 14
theorem sc_require_format : FnScope ["form"] ["form"] (defScope s_require_format) := ⟨rfl, rfl, rfl, by decide +kernel, rfl, by decide +kernel, by decide +kernel⟩
abbrev s_require_rule : Stmt := topS 16
theorem sc_require_rule : FnScope ["rule"] ["rule"] (defScope s_require_rule) := ⟨rfl, rfl, rfl, by decide +kernel, rfl, by decide +kernel, by decide +kernel⟩
abbrev s_holds : Stmt := topS 19
theorem sc_holds : FnScope ["form", "rule", "decide"] ["form", "rule"] (defScope s_holds) := ⟨rfl, rfl, rfl, by decide +kernel, rfl, by decide +kernel, by decide +kernel⟩
abbrev s__span : Stmt := topS 20
theorem sc__span : FnScope ["form"] ["form"] (defScope s__span) := ⟨rfl, rfl, rfl, by decide +kernel, rfl, by decide +kernel, by decide +kernel⟩
abbrev s__is_nearest : Stmt := topS 21
theorem sc__is_nearest : FnScope ["form"] ["form"] (defScope s__is_nearest) := ⟨rfl, rfl, rfl, by decide +kernel, rfl, by decide +kernel, by decide +kernel⟩
abbrev s__is_gradual : Stmt := topS 22
theorem sc__is_gradual : FnScope ["form"] ["form"] (defScope s__is_gradual) := ⟨rfl, rfl, rfl, by decide +kernel, rfl, by decide +kernel, by decide +kernel⟩
abbrev s__is_largest : Stmt := topS 23
theorem sc__is_largest : FnScope ["form"] ["form"] (defScope s__is_largest) := ⟨rfl, rfl, rfl, by decide +kernel, rfl, by decide +kernel, by decide +kernel⟩
abbrev s__holds_sum_sign : Stmt := topS 24
theorem sc__holds_sum_sign : FnScope ["form"] ["form"] (defScope s__holds_sum_sign) := ⟨rfl, rfl, rfl, by decide +kernel, rfl, by decide +kernel, by decide +kernel⟩
abbrev s__holds_errors : Stmt := topS 25
theorem sc__holds_errors : FnScope ["form"] ["form"] (defScope s__holds_errors) := ⟨rfl, rfl, rfl, by decide +kernel, rfl, by decide +kernel, by decide +kernel⟩
abbrev s__holds_symmetry : Stmt := topS 26
theorem sc__holds_symmetry : FnScope ["form"] ["form"] (defScope s__holds_symmetry) := ⟨rfl, rfl, rfl, by decide +kernel, rfl, by decide +kernel, by decide +kernel⟩
abbrev s__holds_midpoint : Stmt := topS 27
theorem sc__holds_midpoint : FnScope ["form"] ["form"] (defScope s__holds_midpoint) := ⟨rfl, rfl, rfl, by decide +kernel, rfl, by decide +kernel, by decide +kernel⟩
abbrev s__holds_average : Stmt := topS 28
theorem sc__holds_average : FnScope ["_"] ["_"] (defScope s__holds_average) := ⟨rfl, rfl, rfl, by decide +kernel, rfl, by decide +kernel, by decide +kernel⟩
abbrev s__holds_add_back : Stmt := topS 29
theorem sc__holds_add_back : FnScope ["form"] ["form"] (defScope s__holds_add_back) := ⟨rfl, rfl, rfl, by decide +kernel, rfl, by decide +kernel, by decide +kernel⟩
abbrev s__holds_grouping : Stmt := topS 30
theorem sc__holds_grouping : FnScope ["form"] ["form"] (defScope s__holds_grouping) := ⟨rfl, rfl, rfl, by decide +kernel, rfl, by decide +kernel, by decide +kernel⟩
abbrev s__holds_absorption : Stmt := topS 31
theorem sc__holds_absorption : FnScope ["form"] ["form"] (defScope s__holds_absorption) := ⟨rfl, rfl, rfl, by decide +kernel, rfl, by decide +kernel, by decide +kernel⟩
abbrev s__holds_third : Stmt := topS 32
theorem sc__holds_third : FnScope ["form"] ["form"] (defScope s__holds_third) := ⟨rfl, rfl, rfl, by decide +kernel, rfl, by decide +kernel, by decide +kernel⟩
abbrev s__holds_halves : Stmt := topS 33
theorem sc__holds_halves : FnScope ["_"] ["_"] (defScope s__holds_halves) := ⟨rfl, rfl, rfl, by decide +kernel, rfl, by decide +kernel, by decide +kernel⟩
abbrev s__holds_squares : Stmt := topS 34
theorem sc__holds_squares : FnScope ["form", "p", "low", "_", "mode", "smallest_power"] ["form"] (defScope s__holds_squares) := ⟨rfl, rfl, rfl, by decide +kernel, rfl, by decide +kernel, by decide +kernel⟩
abbrev s_profile : Stmt := topS 40
theorem sc_profile : FnScope ["form", "rule"] ["form"] (defScope s_profile) := ⟨rfl, rfl, rfl, by decide +kernel, rfl, by decide +kernel, by decide +kernel⟩
abbrev s_profiles : Stmt := topS 41
theorem sc_profiles : FnScope ["form"] [] (defScope s_profiles) := ⟨rfl, rfl, rfl, by decide +kernel, rfl, by decide +kernel, by decide +kernel⟩
abbrev s_implies : Stmt := topS 42
theorem sc_implies : FnScope ["one", "other"] ["one", "other"] (defScope s_implies) := ⟨rfl, rfl, rfl, by decide +kernel, rfl, by decide +kernel, by decide +kernel⟩
abbrev s_parting : Stmt := topS 43
theorem sc_parting : FnScope ["one", "other", "form"] ["one", "other"] (defScope s_parting) := ⟨rfl, rfl, rfl, by decide +kernel, rfl, by decide +kernel, by decide +kernel⟩
abbrev s__first_formats : Stmt := topS 44
theorem sc__first_formats : FnScope ["low", "span", "mode", "tiny", "huge"] [] (defScope s__first_formats) := ⟨rfl, rfl, rfl, by decide +kernel, rfl, by decide +kernel, by decide +kernel⟩
abbrev s__law_taken : Stmt := topS 46
theorem sc__law_taken : FnScope ["row", "many", "found", "cell"] ["row", "many"] (defScope s__law_taken) := ⟨rfl, rfl, rfl, by decide +kernel, rfl, by decide +kernel, by decide +kernel⟩
abbrev s__law_pick : Stmt := topS 47
theorem sc__law_pick : FnScope ["row", "kinds"] ["row", "kinds"] (defScope s__law_pick) := ⟨rfl, rfl, rfl, by decide +kernel, rfl, by decide +kernel, by decide +kernel⟩
abbrev s__law_alike : Stmt := topS 48
theorem sc__law_alike : FnScope ["found", "due", "k"] ["found", "due"] (defScope s__law_alike) := ⟨rfl, rfl, rfl, by decide +kernel, rfl, by decide +kernel, by decide +kernel⟩
abbrev s__law_format : Stmt := topS 49
theorem sc__law_format : FnScope ["row", "most", "p", "low", "high", "mode"] ["row", "most"] (defScope s__law_format) := ⟨rfl, rfl, rfl, by decide +kernel, rfl, by decide +kernel, by decide +kernel⟩
abbrev s__law_rules : Stmt := topS 50
theorem sc__law_rules : FnScope ["some"] [] (defScope s__law_rules) := ⟨rfl, rfl, rfl, by decide +kernel, rfl, by decide +kernel, by decide +kernel⟩
abbrev s__law_holds : Stmt := topS 51
theorem sc__law_holds : FnScope ["form", "rule", "p", "low", "high", "mode", "tiny", "huge", "span", "gradual", "near", "great", "power", "found"] ["form", "rule"] (defScope s__law_holds) := ⟨rfl, rfl, rfl, by decide +kernel, rfl, by decide +kernel, by decide +kernel⟩
abbrev s__law_kinds : Stmt := topS 52
theorem sc__law_kinds : FnScope ["found", "mode", "tiny", "huge"] [] (defScope s__law_kinds) := ⟨rfl, rfl, rfl, by decide +kernel, rfl, by decide +kernel, by decide +kernel⟩
abbrev s__law_all : Stmt := topS 53
theorem sc__law_all : FnScope ["p", "lows", "found", "low", "span", "kind"] ["p", "lows"] (defScope s__law_all) := ⟨rfl, rfl, rfl, by decide +kernel, rfl, by decide +kernel, by decide +kernel⟩
abbrev s__law_profile : Stmt := topS 54
theorem sc__law_profile : FnScope ["form", "rule"] ["form"] (defScope s__law_profile) := ⟨rfl, rfl, rfl, by decide +kernel, rfl, by decide +kernel, by decide +kernel⟩
abbrev s_law : Stmt := topS 55
theorem sc_law : FnScope ["script", "row", "form", "some", "one", "other", "due", "each", "told", "near", "whole", "lists", "shown"] ["script"] (defScope s_law) := ⟨rfl, rfl, rfl, by decide +kernel, rfl, by decide +kernel, by decide +kernel⟩
/-- what the top has written -/
structure Txt (w : World) (K : PySem.W.Frag) (mg : Str → Option Value) : Prop where
  a_is_within : At K mg "is_within" s_is_within ["value", "least", "greatest"]
  a_is_format : At K mg "is_format" s_is_format ["value"]
  a_require_format : At K mg "require_format" s_require_format ["form"]
  a_require_rule : At K mg "require_rule" s_require_rule ["rule"]
  a_holds : At K mg "holds" s_holds ["form", "rule"]
  a__span : At K mg "_span" s__span ["form"]
  a__is_nearest : At K mg "_is_nearest" s__is_nearest ["form"]
  a__is_gradual : At K mg "_is_gradual" s__is_gradual ["form"]
  a__is_largest : At K mg "_is_largest" s__is_largest ["form"]
  a__holds_sum_sign : At K mg "_holds_sum_sign" s__holds_sum_sign ["form"]
  a__holds_errors : At K mg "_holds_errors" s__holds_errors ["form"]
  a__holds_symmetry : At K mg "_holds_symmetry" s__holds_symmetry ["form"]
  a__holds_midpoint : At K mg "_holds_midpoint" s__holds_midpoint ["form"]
  a__holds_average : At K mg "_holds_average" s__holds_average ["_"]
  a__holds_add_back : At K mg "_holds_add_back" s__holds_add_back ["form"]
  a__holds_grouping : At K mg "_holds_grouping" s__holds_grouping ["form"]
  a__holds_absorption : At K mg "_holds_absorption" s__holds_absorption ["form"]
  a__holds_third : At K mg "_holds_third" s__holds_third ["form"]
  a__holds_halves : At K mg "_holds_halves" s__holds_halves ["_"]
  a__holds_squares : At K mg "_holds_squares" s__holds_squares ["form"]
  a_profile : At K mg "profile" s_profile ["form"]
  a_profiles : At K mg "profiles" s_profiles []
  a_implies : At K mg "implies" s_implies ["one", "other"]
  a_parting : At K mg "parting" s_parting ["one", "other"]
  a__first_formats : At K mg "_first_formats" s__first_formats []
  a__law_taken : At K mg "_law_taken" s__law_taken ["row", "many"]
  a__law_pick : At K mg "_law_pick" s__law_pick ["row", "kinds"]
  a__law_alike : At K mg "_law_alike" s__law_alike ["found", "due"]
  a__law_format : At K mg "_law_format" s__law_format ["row", "most"]
  a__law_rules : At K mg "_law_rules" s__law_rules []
  a__law_holds : At K mg "_law_holds" s__law_holds ["form", "rule"]
  a__law_kinds : At K mg "_law_kinds" s__law_kinds []
  a__law_all : At K mg "_law_all" s__law_all ["p", "lows"]
  a__law_profile : At K mg "_law_profile" s__law_profile ["form"]
  m_bool : mg "bool" = none
  m_dict : mg "dict" = none
  m_int : mg "int" = none
  m_isinstance : mg "isinstance" = none
  m_len : mg "len" = none
  m_list : mg "list" = none
  m_min : mg "min" = none
  m_range : mg "range" = none
  m_set : mg "set" = none
  m_sorted : mg "sorted" = none
  m_str : mg "str" = none
  m_tuple : mg "tuple" = none
  d_MODES : ∀ a, mg "MODES" = some (.ref a) → DN K a
  d_TINY_WAYS : ∀ a, mg "TINY_WAYS" = some (.ref a) → DN K a
  d_HUGE_WAYS : ∀ a, mg "HUGE_WAYS" = some (.ref a) → DN K a
  d_RULES : ∀ a, mg "RULES" = some (.ref a) → DN K a
  d_FIRST_EXPONENTS : ∀ a, mg "FIRST_EXPONENTS" = some (.ref a) → DN K a
  d_FIRST_SPANS : ∀ a, mg "FIRST_SPANS" = some (.ref a) → DN K a
  c_MODES : ∃ a, mg "MODES" = some (.ref a) ∧ SqT K (fun _ => none) a [.str "even", .str "away", .str "down", .str "up", .str "zero"]
  c_TINY_WAYS : ∃ a, mg "TINY_WAYS" = some (.ref a) ∧ SqT K (fun _ => none) a [.str "gradual", .str "flush"]
  c_HUGE_WAYS : ∃ a, mg "HUGE_WAYS" = some (.ref a) ∧ SqT K (fun _ => none) a [.str "infinite", .str "largest"]
  c_LEAST_PRECISION : ∃ t, mg "LEAST_PRECISION" = some (.int (4) t)
  c_GREATEST_PRECISION : ∃ t, mg "GREATEST_PRECISION" = some (.int (10) t)
  c_GREATEST_EXPONENT : ∃ t, mg "GREATEST_EXPONENT" = some (.int (40) t)
  c_GREATEST_SPAN : ∃ t, mg "GREATEST_SPAN" = some (.int (20) t)
  c_RULES : ∃ a, mg "RULES" = some (.ref a) ∧ SqT K (fun _ => none) a [.str "sum sign", .str "zero difference", .str "close difference", .str "error term", .str "fast error", .str "symmetry", .str "midpoint", .str "average", .str "add back", .str "grouping", .str "absorption", .str "third", .str "halves", .str "squares"]
  c_DECISIONS : ∃ a, mg "DECISIONS" = some (.ref a) ∧ KdF K w mg a [("sum sign", "_holds_sum_sign"), ("zero difference", "_is_gradual"), ("close difference", "_is_gradual"), ("error term", "_holds_errors"), ("fast error", "_holds_errors"), ("symmetry", "_holds_symmetry"), ("midpoint", "_holds_midpoint"), ("average", "_holds_average"), ("add back", "_holds_add_back"), ("grouping", "_holds_grouping"), ("absorption", "_holds_absorption"), ("third", "_holds_third"), ("halves", "_holds_halves"), ("squares", "_holds_squares")]
  c_FIRST_PRECISION : ∃ t, mg "FIRST_PRECISION" = some (.int (4) t)
  c_FIRST_EXPONENTS : ∃ a, mg "FIRST_EXPONENTS" = some (.ref a) ∧ SqT K (fun _ => none) a [.int (-40), .int (-4), .int (-3), .int (-1), .int (0)]
  c_FIRST_SPANS : ∃ a, mg "FIRST_SPANS" = some (.ref a) ∧ SqT K (fun _ => none) a [.int (0), .int (1), .int (2), .int (4), .int (5)]
section
variable {P : Program} {w : World} {K : PySem.W.Frag} {mg : Str → Option Value} {base : Heap}
/-! ### _law_alike -/
def dpt : Nat → PyData → Prop
  | _, .none => True
  | _, .bool _ => True
  | _, .int _ => True
  | _, .str _ => True
  | n + 1, .list xs => xs.length ≤ 1000 ∧ ∀ x ∈ xs, dpt n x
  | n + 1, .tuple xs => xs.length ≤ 1000 ∧ ∀ x ∈ xs, dpt n x
  | _, _ => False
def A_alike (n : Nat) : List PyData → PyData → Prop := fun ds d => ∃ v : PyData, dpt n v ∧ ds = [v, v] ∧ d = .bool true
theorem df__law_alike (T : Txt w K mg) (n : Nat) : Df P w K mg base "_law_alike" (n + 1) (spD K (A_alike n)) := by
  induction n using Nat.strongRecOn with
  | _ n ih0 =>
    have ih : ∀ m, n = m + 1 → Df P w K mg base "_law_alike" (m + 1) (spD K (A_alike m)) := fun m e => ih0 m (by omega)
    refine df_of T.a__law_alike sc__law_alike (fun ds d h => ?_) (fun fa cdv A' outer s H E S' ds d hr h => ?_)
    · obtain ⟨v, _, rfl, _⟩ := h; rfl
    · obtain ⟨v, hv, rfl, rfl⟩ := h
      have nd := sc__law_alike.nd
      have seqs : ∀ xs, seqOf v = some xs → isStrD v = false → xs.length ≤ 1000 → (∀ x ∈ xs, ∃ m, n = m + 1 ∧ dpt m x) → (isTupD v || isLstD v) = true →
          (∀ (D : Addr) (i : Int) (d : PyData) (X : Cx) (δ : DE) (a b : Expr) (pos : Pos), X.K = K → VD ((Fm.pure S').more D) X a δ v → VD ((Fm.pure S').more D) X b δ (.int i) → atI xs i = some d → PlainIx b → VD ((Fm.pure S').more D) X (.Subscript a b pos) δ d) →
          VS (Fm.pure S') (cxOf (L2.CX P w) P w K mg base ["found", "due", "k"] "_law_alike" (defScope s__law_alike) fa cdv A' outer s H E).nox (defBody s__law_alike) (startD ["found", "due", "k"] ([v, v].map .dat)) { nx := fun _ => PyData.bool true = .none, rt := fun y => y = .bool true } := by
        intro xs hs _ hl hx ht hix
        refine vs_ifB (vb_val (vd_isi2 T.m_isinstance T.m_tuple (by decide +kernel) T.m_list (by decide +kernel) (vd_var 1) (kit_tuple _) (kit_list _))) (fun _ => ?_) (fun c => by rw [ht] at c; cases c)
        refine vs_ifB (VW.vt (vwb_or (vb_not (vb_val (vd_isi2 T.m_isinstance T.m_tuple (by decide +kernel) T.m_list (by decide +kernel) (vd_var 0) (kit_tuple _) (kit_list _)))) fun _ => vwb_or1 (vb_neB (vd_isi T.m_isinstance T.m_list (by decide +kernel) (vd_var 0) (kit_list _)) (vd_isi T.m_isinstance T.m_list (by decide +kernel) (vd_var 1) (kit_list _))))) (fun c => by rw [ht] at c; simp at c) (fun _ => vs_nil ?_)
        refine vs_ifB (vb_neI (vd_len T.m_len (vd_var 0) hs) (vd_len T.m_len (vd_var 1) hs)) (fun c => by simp at c) (fun _ => vs_nil ?_)
        refine vs_ret (ve_two (pe_cmpR (op_eqD hr.units) (pe_sem _ _) (pe_sem _ _) (nomark _)) (ve_lc 2 (fun _ => false) (fun _ _ => True) (vi_range1 T.m_range (VE.to (vd_len T.m_len (vd_var 1) hs) ⟨_, rfl, ⟨by omega, by omega⟩, ?_, ?_, ?_, ?_⟩)) nd (blkOk_by (own := [("k", 2)]) (N := ["found", "due", "k"]) (sc := defScope s__law_alike) (by decide +kernel)) (fun _ _ _ _ _ => pg_name (i := 2) nd rfl (Or.inl rfl))))
        · rw [rngD_len]; omega
        · intro d hd D sh Hs C cl fp
          obtain ⟨i, hi, rfl⟩ := rngD_mem hd
          obtain ⟨z, hz, _, hm⟩ := atI_int (xs := xs) (i := 0 + (i : Int)) (by omega) (by omega)
          obtain ⟨m, hn, hd⟩ := hx z hm
          exact vts_one (VB.is (vb_not (vb_val (vd_call (ih m hn) hr (by omega) (vl_cons (hix D _ z _ _ _ _ _ rfl (vd_var 0) (vd_var 2) hz (fun _ _ => rfl)) (vl_cons (hix D _ z _ _ _ _ _ rfl (vd_var 1) (vd_var 2) hz (fun _ _ => rfl)) vl_nil)) ⟨z, hd, rfl, rfl⟩))) rfl)
        · intro d _ hb; cases hb
        · intro ys hy
          have e : ys = [] := by
            have := LcR.none hy
            exact this
          subst e
          exact VE.to (vd_lst vl_nil) ⟨_, opd_eqD (by rfl) (by rfl), by rfl⟩
      cases v with
      | list xs =>
        cases n with
        | zero => exact hv.elim
        | succ m => exact seqs xs rfl rfl hv.1 (fun x hx => ⟨m, rfl, hv.2 x hx⟩) rfl (fun D i d X δ a b pos _ h1 h2 h3 h4 => vd_ixL h1 h2 h3 h4)
      | tuple xs =>
        cases n with
        | zero => exact hv.elim
        | succ m => exact seqs xs rfl rfl hv.1 (fun x hx => ⟨m, rfl, hv.2 x hx⟩) rfl (fun D i d X δ a b pos _ h1 h2 h3 h4 => vd_ixT h1 h2 h3 h4)
      | dict x => cases n <;> exact hv.elim
      | none =>
        refine vs_ifB (vb_val (vd_isi2 T.m_isinstance T.m_tuple (by decide +kernel) T.m_list (by decide +kernel) (vd_var 1) (kit_tuple _) (kit_list _))) (fun c => by cases c) (fun _ => vs_nil ?_)
        refine vs_ifB (VW.vt (vwb_or (y := true) (vb_isN (vd_var 1) vd_non) fun c => by cases c)) (fun _ => ?_) (fun c => by cases c)
        exact vs_ret (VD.is (vd_and (vd_eqV (vd_var 0) (vd_var 1) rfl rfl rfl) fun _ => vd_one (vd_eqB (vd_isi T.m_isinstance T.m_str (by decide +kernel) (vd_var 0) (kit_str _)) (vd_isi T.m_isinstance T.m_str (by decide +kernel) (vd_var 1) (kit_str _)))) (by simp))
      | str x =>
        refine vs_ifB (vb_val (vd_isi2 T.m_isinstance T.m_tuple (by decide +kernel) T.m_list (by decide +kernel) (vd_var 1) (kit_tuple _) (kit_list _))) (fun c => by cases c) (fun _ => vs_nil ?_)
        refine vs_ifB (VW.vt (vwb_or (vb_isN (vd_var 1) vd_non) fun _ => vwb_or1 (vb_val (vd_isi T.m_isinstance T.m_str (by decide +kernel) (vd_var 1) (kit_str _))))) (fun _ => ?_) (fun c => by cases c)
        exact vs_ret (VD.is (vd_and (vd_eqS (vd_var 0) (vd_var 1)) fun _ => vd_one (vd_eqB (vd_isi T.m_isinstance T.m_str (by decide +kernel) (vd_var 0) (kit_str _)) (vd_isi T.m_isinstance T.m_str (by decide +kernel) (vd_var 1) (kit_str _)))) (by simp))
      | bool x =>
        refine vs_ifB (vb_val (vd_isi2 T.m_isinstance T.m_tuple (by decide +kernel) T.m_list (by decide +kernel) (vd_var 1) (kit_tuple _) (kit_list _))) (fun c => by cases c) (fun _ => vs_nil ?_)
        refine vs_ifB (VW.vt (vwb_or (vb_isN (vd_var 1) vd_non) fun _ => vwb_or1 (vb_val (vd_isi T.m_isinstance T.m_str (by decide +kernel) (vd_var 1) (kit_str _))))) (fun c => by cases c) (fun _ => vs_nil ?_)
        exact vs_ret (VD.is (vd_and (vd_isi T.m_isinstance T.m_int (by decide +kernel) (vd_var 0) (kit_int _)) fun _ => vd_and (vd_eqB (vd_isi T.m_isinstance T.m_bool (by decide +kernel) (vd_var 0) (kit_bool _)) (vd_isi T.m_isinstance T.m_bool (by decide +kernel) (vd_var 1) (kit_bool _))) fun _ => vd_one (vd_eqB (vd_var 0) (vd_var 1))) (by simp [isIntD]))
      | int x =>
        refine vs_ifB (vb_val (vd_isi2 T.m_isinstance T.m_tuple (by decide +kernel) T.m_list (by decide +kernel) (vd_var 1) (kit_tuple _) (kit_list _))) (fun c => by cases c) (fun _ => vs_nil ?_)
        refine vs_ifB (VW.vt (vwb_or (vb_isN (vd_var 1) vd_non) fun _ => vwb_or1 (vb_val (vd_isi T.m_isinstance T.m_str (by decide +kernel) (vd_var 1) (kit_str _))))) (fun c => by cases c) (fun _ => vs_nil ?_)
        exact vs_ret (VD.is (vd_and (vd_isi T.m_isinstance T.m_int (by decide +kernel) (vd_var 0) (kit_int _)) fun _ => vd_and (vd_eqB (vd_isi T.m_isinstance T.m_bool (by decide +kernel) (vd_var 0) (kit_bool _)) (vd_isi T.m_isinstance T.m_bool (by decide +kernel) (vd_var 1) (kit_bool _))) fun _ => vd_one (vd_eqI (vd_var 0) (vd_var 1))) (by simp [isIntD]))
/-! ### _law_taken -/
theorem df__law_taken (T : Txt w K mg) : Df P w K mg base "_law_taken" 1 (spR K A_taken) := by
  have mI := T.m_int
  have mL := T.m_len
  obtain ⟨f, fd, F, hm, hb⟩ := T.a__law_taken.ex
  refine ⟨f, fd, _, F.okX sc__law_taken ?_ (fun cdv A' outer s H vs Q E hr hs => ?_), hm, F.kp, hb⟩
  · rintro vs H Q E ⟨S', r, scr, vs', ds, k, rfl, _, _, _, hn, ⟨m, _, _, rfl, rfl⟩, _⟩
    show vs'.length + 1 = 2
    rw [hn.length]; rfl
  · obtain ⟨S, r, scr, vs', ds, k, rfl, hs, hdom, ⟨⟨i, c2, c3, hi, h20, h2l, h3, hrow⟩, hsc⟩, hn, ⟨m, hm0, hm1, rfl, rfl⟩, q⟩ := hs
    obtain ⟨ns, hnl, hsq⟩ := hsc.sq
    cases hn with
    | cons n1 n2 =>
    cases n2
    cases n1
    have hdiv : ∀ z : Int, CDivW z m := fun z => wide_div (b := 64) hm0 (by omega) (by decide) (by decide)
    -- what is left behind a draw
    have fin : ∀ (i' s' c' : Int) (v : Int), 0 ≤ i' → 0 ≤ s' → s' < 2147483647 → 0 ≤ c' → 0 ≤ v → v < m → ∀ H' : Hp, H' r = some (.lst [.ref scr, .int i', .int s', .int c']) → Xt (fun a _ => a = r) H H' → Q (.int v) H' := fun i' s' c' v a1 a2 a3 a4 a5 a6 H' hH' e => by
      refine q _ H' (.int v) e ⟨⟨i', s', c', a1, a2, a3, a4, hH'⟩, hsc.mono e⟩ (.int v) ⟨v, rfl, a5, a6⟩
    have xt : ∀ (H1 : Hp) (xs : List V), Xt (fun a _ => a = r) H H1 → Xt (fun a _ => a = r) H (upd H1 r (.lst xs)) := fun H1 xs e => e.trans (.put (.inl fun _ => rfl))
    have nd := sc__law_taken.nd
    refine ⟨_, PSs.nox (pss_cons (ps_if (pt_cmpR op_gt (pe_ix ix_list (pv 0) pe_int (fun _ _ => rfl)) pe_int (nomark _))
        (pss_cons (ps_set (i := 2) nd rfl (.inl rfl) (pe_op op_mod (pe_callTy call_int1 rfl mI (by decide +kernel) (pa_cons (pe_ix ix_list (pv 0) pe_int (fun _ _ => rfl)) pa_nil)) (pv 1)))
        (pss_cons (ps_asg (pe_op op_fdivW (pe_ix ix_list (pv 0) pe_int (fun _ _ => rfl)) (pv 1)) (pg_sub (pv 0) pe_int set_list))
        (pss_one (ps_ret (pv 2))))) pss_nil)
      (pss_cons (ps_asg (pe_op op_add (pe_ix ix_list (pv 0) pe_int (fun _ _ => rfl)) pe_int) (pg_sub (pv 0) pe_int set_list))
      (pss_cons (ps_if (pt_cmpR op_gt (pe_ix ix_list (pv 0) pe_int (fun _ _ => rfl)) (pe_callB call_len_seq (by rfl) mL PySem.boot_len (pa_cons (pe_ix ix_list (pv 0) pe_int (fun _ _ => rfl)) pa_nil)) (nomark _))
        (pss_cons (ps_asg (pe_op op_mod (pe_callTy call_int1 rfl mI (by decide +kernel) (pa_cons (pe_op op_add (pe_op op_mulX (pe_ix ix_list (pv 0) pe_int (fun _ _ => rfl)) pe_int) pe_int) pa_nil)) pe_int) (pg_sub (pv 0) pe_int set_list))
        (pss_one (ps_ret (pe_op op_mod (pe_callTy call_int1 rfl mI (by decide +kernel) (pa_cons (pe_op op_fdivW (pe_ix ix_list (pv 0) pe_int (fun _ _ => rfl)) pe_int) pa_nil)) (pv 1))))) pss_nil)
      (pss_cons (ps_set (i := 3) nd rfl (.inl rfl) (pe_ix ix_list (pe_ix ix_list (pv 0) pe_int (fun _ _ => rfl)) (pe_op op_sub (pe_ix ix_list (pv 0) pe_int (fun _ _ => rfl)) pe_int) (fun _ _ => rfl)))
      (pss_cons (ps_asg (pe_op op_mod (pe_callTy call_int1 rfl mI (by decide +kernel) (pa_cons (pe_op op_add (pe_op op_add (pe_op op_mulX (pe_ix ix_list (pv 0) pe_int (fun _ _ => rfl)) pe_int) (pv 3)) pe_int) pa_nil)) pe_int) (pg_sub (pv 0) pe_int set_list))
      (pss_cons (ps_if (pt_cmpR op_ge (pv 3) (pe_op op_pow pe_int pe_int) (nomark _)) (pss_one (ps_asg (pe_op op_fdivW (pv 3) (pv 1)) (pg_sub (pv 0) pe_int set_list))) pss_nil)
      (pss_one (ps_ret (pe_op op_mod (pe_callTy call_int1 rfl mI (by decide +kernel) (pa_cons (pv 3) pa_nil)) (pv 1)))))))))), ?_⟩
    have sq0 := SqL.of (K := K) hrow
    refine ⟨_, rfl, r, _, 3, _, rfl, rfl, sq0, rfl, _, _, rfl, rfl, _, rfl, ite2 (fun c0 => ?_) (fun c0 => ?_)⟩
    · -- the rest of a great cell
      refine ⟨_, rfl, r, _, 3, _, rfl, rfl, sq0, rfl, .inl ⟨_, rfl, _, rfl, _, _, rfl, rfl, hm0, ?_⟩⟩
      refine ⟨_, rfl, r, _, 3, _, rfl, rfl, sq0, rfl, _, rfl, _, _, rfl, rfl, hdiv _, ?_⟩
      refine ⟨_, rfl, r, _, 3, 3, rfl, rfl, hrow, rfl, ?_⟩
      refine ⟨_, rfl, ?_⟩
      exact fin i c2 (c3 / m) (c3 % m) hi h20 h2l (Int.ediv_nonneg h3 (by omega)) (Int.emod_nonneg _ (by omega)) (Int.emod_lt_of_pos _ hm0) _ upd_same (xt _ _ (.refl _))
    · refine ⟨_, rfl, r, _, 1, _, rfl, rfl, sq0, rfl, _, _, rfl, rfl, ?_⟩
      refine ⟨_, rfl, r, _, 1, 1, rfl, rfl, hrow, rfl, ?_⟩
      have e1 := xt H ([V.ref scr, .int i, .int c2, .int c3].set 1 (.int (i + 1))) (.refl _)
      generalize hH1 : upd H r (.lst ([V.ref scr, .int i, .int c2, .int c3].set 1 (.int (i + 1)))) = H1 at e1 ⊢
      have hr1 : H1 r = some (.lst [V.ref scr, .int (i + 1), .int c2, .int c3]) := by rw [← hH1]; exact upd_same
      have sq1 := SqL.of (K := K) hr1
      obtain ⟨ns', hnl', hsq'⟩ := (hsc.mono e1).sq
      refine ⟨_, rfl, r, _, 1, _, rfl, rfl, sq1, rfl, _, rfl, r, _, 0, _, rfl, rfl, sq1, rfl, _, _, rfl, .inl hsq', _, _, rfl, rfl, _, rfl, ite2 (fun c1 => ?_) (fun c1 => ?_)⟩
      · refine ⟨_, rfl, r, _, 2, _, rfl, rfl, sq1, rfl, _, _, rfl, rfl, mulx_ok (a := 40) (b := 40) (by omega) (by decide) (by decide), _, _, rfl, rfl, .inl ⟨_, rfl, _, _, rfl, rfl, (by decide : (0 : Int) < 2147483647), ?_⟩⟩
        refine ⟨_, rfl, r, _, 2, 2, rfl, rfl, hr1, rfl, ?_⟩
        have b1 := Int.emod_nonneg (c2 * 48271 + 11) (show (2147483647 : Int) ≠ 0 by decide)
        have b2 := Int.emod_lt_of_pos (c2 * 48271 + 11) (show (0 : Int) < 2147483647 by decide)
        have hr2 : (upd H1 r (.lst ([V.ref scr, .int (i + 1), .int c2, .int c3].set 2 (.int ((c2 * 48271 + 11) % 2147483647))))) r = some (.lst [V.ref scr, .int (i + 1), .int ((c2 * 48271 + 11) % 2147483647), .int c3]) := upd_same
        refine ⟨_, rfl, r, _, 2, _, rfl, rfl, SqL.of hr2, rfl, _, _, rfl, rfl, wide_div (b := 64) (by decide) (by decide) (by decide) (by decide), .inl ⟨_, rfl, _, rfl, _, _, rfl, rfl, hm0, ?_⟩⟩
        exact fin (i + 1) _ c3 _ (by omega) b1 b2 h3 (Int.emod_nonneg _ (by omega)) (Int.emod_lt_of_pos _ hm0) _ hr2 (xt _ _ e1)
      · have hlen : i + 1 ≤ (ns'.map V.int).length := by
          have := c1
          simp only [decide_eq_true_eq] at this
          omega
        rw [List.length_map] at hlen
        have hat : ∃ z, ns'[i.toNat]? = some z := ⟨ns'[i.toNat]'(by omega), by simp⟩
        obtain ⟨z, hz⟩ := hat
        have hz' : atI (ns'.map V.int) (i + 1 - 1) = some (.int z) := by
          have e : i + 1 - 1 = ((i.toNat : Nat) : Int) := by omega
          rw [e]
          exact atI_nat (by rw [List.getElem?_map, hz]; rfl)
        refine ⟨_, rfl, r, _, 0, _, rfl, rfl, sq1, rfl, _, rfl, r, _, 1, _, rfl, rfl, sq1, rfl, _, _, rfl, rfl, _, _, _, _, rfl, rfl, hsq', hz', ?_⟩
        refine ⟨_, rfl, r, _, 2, _, rfl, rfl, sq1, rfl, _, _, rfl, rfl, mulx_ok (a := 40) (b := 40) (by omega) (by decide) (by decide), _, rfl, _, _, rfl, rfl, _, _, rfl, rfl, .inl ⟨_, rfl, _, _, rfl, rfl, (by decide : (0 : Int) < 2147483647), ?_⟩⟩
        refine ⟨_, rfl, r, _, 2, 2, rfl, rfl, hr1, rfl, ?_⟩
        have b1 := Int.emod_nonneg (c2 * 48271 + z + 11) (show (2147483647 : Int) ≠ 0 by decide)
        have b2 := Int.emod_lt_of_pos (c2 * 48271 + z + 11) (show (0 : Int) < 2147483647 by decide)
        have e2 := xt H1 ([V.ref scr, .int (i + 1), .int c2, .int c3].set 2 (.int ((c2 * 48271 + z + 11) % 2147483647))) e1
        generalize hH2 : upd H1 r (.lst ([V.ref scr, .int (i + 1), .int c2, .int c3].set 2 (.int ((c2 * 48271 + z + 11) % 2147483647)))) = H2 at e2 ⊢
        have hr2 : H2 r = some (.lst [V.ref scr, .int (i + 1), .int ((c2 * 48271 + z + 11) % 2147483647), .int c3]) := by rw [← hH2]; exact upd_same
        refine ⟨_, rfl, _, _, rfl, rfl, ⟨by decide, by decide, by decide⟩, _, _, rfl, rfl, _, rfl, ite2 (fun c4 => ?_) (fun c4 => ?_)⟩
        · have hz0 : 0 ≤ z := by
            have := c4
            simp only [decide_eq_true_eq] at this
            exact Int.le_trans (by decide) this
          refine ⟨_, rfl, _, rfl, _, _, rfl, rfl, hdiv _, ?_⟩
          refine ⟨_, rfl, r, _, 3, 3, rfl, rfl, hr2, rfl, ?_⟩
          refine ⟨_, rfl, .inl ⟨_, rfl, _, rfl, _, _, rfl, rfl, hm0, ?_⟩⟩
          exact fin (i + 1) _ (z / m) _ (by omega) b1 b2 (Int.ediv_nonneg hz0 (by omega)) (Int.emod_nonneg _ (by omega)) (Int.emod_lt_of_pos _ hm0) _ upd_same (xt _ _ e2)
        · refine ⟨_, rfl, .inl ⟨_, rfl, _, rfl, _, _, rfl, rfl, hm0, ?_⟩⟩
          exact fin (i + 1) _ c3 _ (by omega) b1 b2 h3 (Int.emod_nonneg _ (by omega)) (Int.emod_lt_of_pos _ hm0) _ hr2 e2
/-! ### _law_pick -/
theorem df__law_pick (T : Txt w K mg) : Df P w K mg base "_law_pick" 2 (spR K A_pick) := by
  refine dr_of T.a__law_pick sc__law_pick (fun ds k h => ?_) (fun f cdv A' outer s H E F r ds k hr hF h => ?_)
  · obtain ⟨xs, _, _, rfl, _⟩ := h; rfl
  · obtain ⟨xs, h0, h1, rfl, rfl⟩ := h
    have hl : 0 < xs.length := List.length_pos_iff.mpr h0
    refine vs_ret (ve_ixL (VE.to (vd_var 1) (ve_taken 0 hF (df__law_taken T) hr (by decide) (vd_len T.m_len (vd_var 1) rfl) (by omega) (by omega) fun i a b => ?_)))
    obtain ⟨d, h2, _, h3⟩ := atI_int a b
    exact ⟨xs, i, d, rfl, rfl, h2, h3⟩
/-! ### _law_format -/
def A_format : List PyData → (PyData → Prop) → Prop := fun ds k => ∃ m : Int, 0 ≤ m ∧ m ≤ 20 ∧ ds = [.int m] ∧ k = fun d => ∃ f : Form, f.Ok ∧ (f.e : Int) ≤ m ∧ d = encF f
theorem df__law_format (T : Txt w K mg) : Df P w K mg base "_law_format" 3 (spR K A_format) := by
  refine dr_of T.a__law_format sc__law_format (fun ds k h => ?_) (fun f cdv A' outer s H E F r ds k hr hF h => ?_)
  · obtain ⟨xs, _, _, rfl, _⟩ := h; rfl
  · obtain ⟨m, h0, h1, rfl, rfl⟩ := h
    have nd := sc__law_format.nd
    refine vs_asg 2 (ve_pick 0 hF (df__law_pick T) hr (by decide) <| ve_lst <| va_consD vd_int <| va_consD vd_int <| va_consD vd_int <| va_consD vd_int <| va_cons <| ve_add <| VE.to vd_int <| ve_taken 0 hF (df__law_taken T) hr (by decide) vd_int (by decide) (by decide) fun i h1 h2 => ⟨4, i, rfl, rfl, va_nil ⟨sz_le (by simp), _, rfl, by simp, by simp, fun x hx => ?_⟩⟩) nd
    obtain ⟨p, rfl, p4, p10⟩ : ∃ p : Nat, x = .int p ∧ 4 ≤ p ∧ p ≤ 10 := by
      simp only [List.mem_cons, List.not_mem_nil, or_false] at hx
      rcases hx with rfl | rfl | rfl | rfl | rfl
      · exact ⟨4, rfl, by omega, by omega⟩
      · exact ⟨4, rfl, by omega, by omega⟩
      · exact ⟨5, rfl, by omega, by omega⟩
      · exact ⟨6, rfl, by omega, by omega⟩
      · exact ⟨(4 + i).toNat, congrArg PyData.int (by omega), by omega, by omega⟩
    clear hx h1 h2
    refine vs_asg 3 (ve_pick 0 hF (df__law_pick T) hr (by decide) <| ve_lst <| va_consD vd_int <| va_consD vd_int <| va_consD (vd_sub vd_int vd_int) <| va_consD (vd_sub vd_int (vd_var 2)) <| va_consD (vd_sub vd_int (vd_var 2)) <| va_consD (vd_sub vd_int (vd_var 2)) <|
      va_cons <| ve_sub <| ve_taken 0 hF (df__law_taken T) hr (by decide) vd_int (by decide) (by decide) fun i h1 h2 => VE.to vd_int ⟨i, 40, rfl, rfl, va_nil ⟨sz_le (by simp), _, rfl, by simp, by simp, fun x hx => ?_⟩⟩) nd
    obtain ⟨low, rfl, lo, hi⟩ : ∃ low : Int, x = .int low ∧ -40 ≤ low ∧ low ≤ 9 := by
      simp only [List.mem_cons, List.not_mem_nil, or_false] at hx
      rcases hx with rfl | rfl | rfl | rfl | rfl | rfl | rfl <;> exact ⟨_, rfl, by omega, by omega⟩
    clear hx h1 h2
    refine vs_asg 4 (ve_add <| VE.to (vd_var 3) <| ve_pick 0 hF (df__law_pick T) hr (by decide) <| ve_lst <| va_consD vd_int <| va_consD vd_int <| va_consD vd_int <| va_consD (vd_sub (vd_var 2) vd_int) <| va_consD (vd_var 2) <| va_consD (vd_add (vd_var 2) vd_int) <|
      va_cons <| ve_taken 0 hF (df__law_taken T) hr (by decide) vd_int (by decide) (by decide) fun i h1 h2 => va_nil ⟨sz_le (by simp), _, rfl, by simp, by simp, fun x hx => ?_⟩) nd
    obtain ⟨j, rfl, j0, j1⟩ : ∃ j : Int, x = .int j ∧ 0 ≤ j ∧ j ≤ 20 := by
      simp only [List.mem_cons, List.not_mem_nil, or_false] at hx
      rcases hx with rfl | rfl | rfl | rfl | rfl | rfl | rfl <;> exact ⟨_, rfl, by omega, by omega⟩
    clear hx h1 h2
    refine ⟨low, j, rfl, rfl, ?_⟩
    refine vs_asg 4 (VE.to (vd_min3 rfl T.m_min (vd_var 4) (vd_add (vd_var 3) (vd_var 1)) vd_int) ?_) nd
    refine vs_asg 5 (ve_pick 0 hF (df__law_pick T) hr (by decide) (VE.to (vd_lst (vl_cons vd_str (vl_cons vd_str (vl_cons vd_str (vl_cons vd_str (vl_cons vd_str vl_nil)))))) ⟨_, rfl, by simp, by simp, fun x hx => ?_⟩)) nd
    obtain ⟨mo, rfl⟩ : ∃ mo : Mode, x = .str mo.s := by
      simp only [List.mem_cons, List.not_mem_nil, or_false] at hx
      rcases hx with rfl | rfl | rfl | rfl | rfl
      · exact ⟨.even, rfl⟩
      · exact ⟨.away, rfl⟩
      · exact ⟨.down, rfl⟩
      · exact ⟨.up, rfl⟩
      · exact ⟨.zero, rfl⟩
    clear hx
    refine vs_ret <| ve_tup <| va_consD (vd_var 2) <| va_consD (vd_var 3) <| va_consD (vd_var 4) <| va_consD (vd_var 5) <| va_cons <| ve_pick 0 hF (df__law_pick T) hr (by decide) <| VE.to (vd_lst (vl_cons vd_str (vl_cons vd_str vl_nil))) ⟨_, rfl, by simp, by simp, fun x hx => ?_⟩
    obtain ⟨g, rfl⟩ : ∃ g : Bool, x = .str (tinyS g) := by
      simp only [List.mem_cons, List.not_mem_nil, or_false] at hx
      rcases hx with rfl | rfl
      · exact ⟨true, rfl⟩
      · exact ⟨false, rfl⟩
    clear hx
    refine va_cons (ve_pick 0 hF (df__law_pick T) hr (by decide) (VE.to (vd_lst (vl_cons vd_str (vl_cons vd_str vl_nil))) ⟨_, rfl, by simp, by simp, fun x hx => va_nil ⟨sz_le (by simp), ?_⟩⟩))
    obtain ⟨b, rfl⟩ : ∃ b : Bool, x = .str (hugeS b) := by
      simp only [List.mem_cons, List.not_mem_nil, or_false] at hx
      rcases hx with rfl | rfl
      · exact ⟨true, rfl⟩
      · exact ⟨false, rfl⟩
    refine ⟨⟨p, low, (min (min (low + j) (low + m)) 40 - low).toNat, mo, g, b⟩, ⟨p4, p10, ?_, lo, ?_⟩, ?_, ?_⟩
    · show (min (min (low + j) (low + m)) 40 - low).toNat ≤ 20; omega
    · show low + ((min (min (low + j) (low + m)) 40 - low).toNat : Int) ≤ 40; omega
    · show ((min (min (low + j) (low + m)) 40 - low).toNat : Int) ≤ m; omega
    · have e : low + ((min (min (low + j) (low + m)) 40 - low).toNat : Int) = min (min (low + j) (low + m)) 40 := by omega
      unfold encF
      rw [e]
/-! ### _law_rules -/
def A_lrules : List PyData → PyData → Prop := fun ds d => ds = [] ∧ d = .list (Rule.all.map fun r => .str r.s)
theorem df__law_rules (T : Txt w K mg) : Df P w K mg base "_law_rules" 1 (spD K A_lrules) := by
  obtain ⟨f, fd, F, hm, hb⟩ := T.a__law_rules.ex
  refine ⟨f, fd, _, F.okX sc__law_rules ?_ (fun cdv A' outer s H vs Q E hr hs => ?_), hm, F.kp, hb⟩
  · rintro vs H Q E ⟨S', ds, d, _, hn, ⟨rfl, _⟩, _⟩
    rw [hn.length]; rfl
  · obtain ⟨S', ds, d, hdom, hn, ⟨rfl, rfl⟩, q⟩ := hs
    cases hn
    refine ⟨_, PSs.nox (pss_cons (ps_set (i := 0) sc__law_rules.nd rfl (.inl rfl) (pe_lst (pa_cons pe_str (pa_cons pe_str (pa_cons pe_str (pa_cons pe_str (pa_cons pe_str (pa_cons pe_str (pa_cons pe_str (pa_cons pe_str pa_nil))))))))) rfl (.inl rfl)) (pss_cons (ps_ret (pe_op op_cat (pe_var (i := 0) rfl (.inl rfl)) (pe_lst (pa_cons pe_str (pa_cons pe_str (pa_cons pe_str (pa_cons pe_str (pa_cons pe_str (pa_cons pe_str pa_nil))))))))) pss_nil)), ?_⟩
    refine ⟨by show 8 ≤ sizeLine; decide, fun p hp => ?_⟩
    refine ⟨_, rfl, by show 6 ≤ sizeLine; decide, fun p2 hp2 => ?_⟩
    have hne : p ≠ p2 := fun z => by rw [← z, upd_same] at hp2; cases hp2
    refine ⟨p, p2, _, _, rfl, rfl, (by rw [upd_ne hne]; exact upd_same), upd_same, by show 14 ≤ sizeLine; decide, fun p3 hp3 => ?_⟩
    have n3 : H p3 = none := by
      by_cases e1 : p3 = p2
      · subst e1; rw [upd_same] at hp3; cases hp3
      · rw [upd_ne e1] at hp3
        by_cases e2 : p3 = p
        · subst e2; rw [upd_same] at hp3; cases hp3
        · rw [upd_ne e2] at hp3; exact hp3
    have n2 : H p2 = none := by rw [upd_ne (fun z => hne z.symm)] at hp2; exact hp2
    exact q _ _ (((Xt.new hp).put2 n2).put2 n3) (.lst ⟨fun z => hdom _ z n3, upd_same⟩ (flat_dn ⟨_, rfl, rfl⟩))
/-! ### _law_holds -/
def A_lholds : List PyData → PyData → Prop := fun ds d => ∃ (f : Form) (r : Rule), f.Ok ∧ ds = [encF f, .str r.s] ∧ d = .bool (holdsM f r)
theorem df__law_holds (T : Txt w K mg) : Df P w K mg base "_law_holds" 1 (spD K A_lholds) := by
  refine df_of T.a__law_holds sc__law_holds (fun ds d h => ?_) (fun fa cdv A' outer s H E S' ds d hr h => ?_)
  · obtain ⟨f, r, _, rfl, _⟩ := h; rfl
  · obtain ⟨f, r, ok, rfl, rfl⟩ := h
    have nd := sc__law_holds.nd
    have hu : (A'.deeper (envOfC "_law_holds" (defScope s__law_holds) s.heap.objs.size fa cdv)).units + 1 < cLine := (Nat.lt_of_le_of_lt (Nat.add_le_add_left (by decide : 1 ≤ 64) _) hr.units)
    have lo := ok.lo
    have p4 := ok.p4
    have md : ∀ m : Mode, decide (f.mode.s = m.s) = (f.mode == m) := fun m => md_eq f.mode m
    refine vs_unp (pn_cons 2 (pn_cons 3 (pn_cons 4 (pn_cons 5 (pn_cons 6 (pn_cons 7 pn_nil nd) nd) nd) nd) nd) nd) (VE.to (vd_var 0) ⟨_, rfl, rfl, ?_⟩)
    have en : inF (.str f.mode.s) [.str "even", .str "away"] = f.mode.near := by cases f.mode <;> decide +kernel
    refine vs_unp (pn_cons 8 (pn_cons 9 (pn_cons 10 (pn_cons 11 pn_nil nd) nd) nd) nd) (VE.to (vd_tup (vl_cons (VD.is (d' := .int (f.e : Int)) (vd_sub (vd_var 4) (vd_var 3)) (congrArg PyData.int (by omega))) (vl_cons (VD.is (vd_eqS (vd_var 6) vd_str) (congrArg PyData.bool (dec_tiny f.g)))
      (vl_cons (VD.is (vd_in (vd_var 5) (vd_lst (vl_cons vd_str (vl_cons vd_str vl_nil))) rfl rfl rfl rfl) (congrArg PyData.bool en)) (vl_cons (VD.is (vd_eqS (vd_var 7) vd_str) (congrArg PyData.bool (dec_largest f.inf))) vl_nil))))) ⟨_, rfl, rfl, ?_⟩)
    show VS _ _ _ [some (.dat (encF f)), some (.dat (.str r.s)), some (.dat (.int f.p)), some (.dat (.int f.low)), some (.dat (.int (f.low + f.e))), some (.dat (.str f.mode.s)), some (.dat (.str (tinyS f.g))), some (.dat (.str (hugeS f.inf))), some (.dat (.int f.e)), some (.dat (.bool f.g)), some (.dat (.bool f.mode.near)), some (.dat (.bool (!f.inf))), none, none] _
    refine vs_asg 12 (VE.to (VD.is (d' := .int (if f.g = true then f.low else f.low + f.p - 1)) (vd_ite (vb_val (vd_var 9)) (fun _ => vd_var 3) (fun _ => vd_sub (vd_add (vd_var 3) (vd_var 2)) vd_int)) (by split <;> rfl)) ?_) nd
    refine vs_disp 13 (.cons .sumSign (d := .bool (holdsM f .sumSign)) (VD.is (vd_or (vd_var 9) (fun _ => vd_one (vd_eqS (vd_var 5) vd_str))) (congrArg PyData.bool (congrArg (f.g || ·) (md .up)))) (.cons .zeroDiff (vd_var 9) (.cons .closeDiff (vd_var 9) .nil))) (fun D => ?_) nd
    refine vsd_put .errTerm 13 hu (d := .bool (holdsM f .errTerm)) (VD.is (vd_and (vd_var 9) (fun _ => vd_and (vd_or (vd_var 11) (fun _ => vd_one (vd_eqS (vd_var 5) vd_str))) (fun _ => vd_one (vd_or (vd_var 10) (fun _ => vd_one (vd_le (vd_var 8) (vd_var 2))))))) (congrArg PyData.bool ?_)) ?_
    · rw [show decide (f.mode.s = ("zero" : Str)) = (f.mode == .zero) from md .zero, show decide ((f.e : Int) ≤ (f.p : Int)) = decide (f.e ≤ f.p) by rw [decide_eq_decide]; omega, ← Bool.and_assoc]; rfl
    refine vsd_put .fastErr 13 hu (d := .bool (holdsM f .errTerm)) (vd_getR .errTerm 13 hu vd_str rfl) ?_
    have ei : inF (.str f.mode.s) [.str "even", .str "away", .str "zero"] = (f.mode == .even || f.mode == .away || f.mode == .zero) := by cases f.mode <;> decide +kernel
    have ei2 : inF (.str f.mode.s) [.str "even", .str "down", .str "zero"] = (f.mode == .even || f.mode == .down || f.mode == .zero) := by cases f.mode <;> decide +kernel
    have e0 : decide ((f.e : Int) = 0) = decide (f.e = 0) := by rw [decide_eq_decide]; omega
    refine vsd_put .symm 13 hu (d := .bool (holdsM f .symm)) (VD.is (vd_or (VD.is (vd_in (vd_var 5) (vd_lst (vl_cons vd_str (vl_cons vd_str (vl_cons vd_str vl_nil)))) rfl rfl rfl rfl) (congrArg PyData.bool ei)) (fun _ => vd_one (vd_and (vd_var 9) (fun _ => vd_and (vd_var 11) (fun _ => vd_one (vd_eqI (vd_var 8) vd_int)))))) (congrArg PyData.bool ?_)) ?_
    · rw [e0, ← Bool.and_assoc]; rfl
    refine vsd_put .midp 13 hu (d := .bool (holdsM f .midp)) (VD.is (vd_or (vd_var 9) (fun _ => vd_one (vd_in (vd_var 5) (vd_lst (vl_cons vd_str (vl_cons vd_str (vl_cons vd_str vl_nil)))) rfl rfl rfl rfl))) (congrArg PyData.bool (congrArg (f.g || ·) ei2))) ?_
    refine vsd_unp 13 (ds := [.bool true, .bool (holdsM f .addBack), .bool (holdsM f .group)]) (pd_cons .aver hu (pd_cons .addBack hu (pd_cons .group hu pd_nil))) (vd_tup (vl_cons vd_bl (vl_cons (VD.is (d := .bool (f.g && decide ((f.e : Int) = 0))) (vd_and (vd_var 9) (fun _ => vd_one (vd_eqI (vd_var 8) vd_int))) ?_) (vl_cons (VD.is (d := .bool (decide ((f.e : Int) = 0))) (vd_eqI (vd_var 8) vd_int) ?_) vl_nil)))) ?_
    · rw [e0]; rfl
    · rw [e0]; rfl
    refine vsd_put .absorb 13 hu (d := .bool (holdsM f .absorb)) (VD.is (vd_and (vd_var 10) (fun _ => vd_and (vd_not (vd_var 11)) (fun _ => vd_one (vd_le (i := (f.e : Int)) (j := ((if f.g = true then 0 else f.p - 1 : Nat) : Int)) (vd_var 8) (VD.is (d' := .int ((if f.g = true then 0 else f.p - 1 : Nat) : Int)) (vd_ite (vb_val (vd_var 9)) (fun _ => vd_int) (fun _ => vd_sub (vd_var 2) vd_int)) ?_))))) (congrArg PyData.bool ?_)) ?_
    · split
      · rfl
      · exact congrArg PyData.int (by omega)
    · rw [show decide ((f.e : Int) ≤ ((if f.g = true then 0 else f.p - 1 : Nat) : Int)) = decide (f.e ≤ if f.g = true then 0 else f.p - 1) by rw [decide_eq_decide]; omega, Bool.not_not, ← Bool.and_assoc]; rfl
    refine vsd_unp 13 (ds := [.bool (holdsM f .third), .bool false]) (pd_cons .third hu (pd_cons .halves hu pd_nil)) (vd_tup (vl_cons (VD.is (vd_le (i := (f.e : Int)) (j := ((if f.mode.near = true then 1 else 0 : Nat) : Int)) (vd_var 8) (VD.is (d' := .int ((if f.mode.near = true then 1 else 0 : Nat) : Int)) (vd_ite (vb_val (vd_var 10)) (fun _ => vd_int) (fun _ => vd_int)) (by split <;> rfl))) (congrArg PyData.bool ?_)) (vl_cons vd_bl vl_nil))) ?_
    · show decide ((f.e : Int) ≤ ((if f.mode.near = true then 1 else 0 : Nat) : Int)) = decide (f.e ≤ if f.mode.near then 1 else 0)
      rw [decide_eq_decide]; omega
    refine vsd_put .squares 13 hu (d := .bool (holdsM f .squares)) (VD.is (vd_or (VD.is (vd_eqS (vd_var 5) vd_str) (congrArg PyData.bool (md .up))) (fun _ => vd_one (vd_ge (vd_var 12) (VD.is (d' := .int (if (f.mode == .away) = true then -1 else 0)) (vd_ite (VB.is (vb_eqS (vd_var 5) vd_str) (md .away)) (fun _ => vd_sub vd_int vd_int) (fun _ => vd_int)) (by split <;> rfl))))) (congrArg PyData.bool rfl)) ?_
    exact vsd_ret (VE.to (vd_getR r 13 hu (vd_var 1) (d := .bool (holdsM f r)) (by cases r <;> rfl)) rfl)
/-! ### _law_kinds -/
def A_lkinds : List PyData → PyData → Prop := fun ds d => ds = [] ∧ d = .list kindsD
theorem df__law_kinds (T : Txt w K mg) : Df P w K mg base "_law_kinds" 1 (spD K A_lkinds) := by
  refine df_of T.a__law_kinds sc__law_kinds (fun ds d h => ?_) (fun fa cdv A' outer s H E S' ds d hr h => ?_)
  · obtain ⟨rfl, _⟩ := h; rfl
  · obtain ⟨rfl, rfl⟩ := h
    have nd := sc__law_kinds.nd
    refine vs_asg 0 (VE.to (vd_lst vl_nil) ?_) nd
    refine vs_for 1 (fun i δ => ∃ m, δ = [some (.dat (.list (((txts modeD).take i).flatMap kindsOf))), m, none, none])
      (vi_list (VE.to (vd_lst (vl_cons vd_str (vl_cons vd_str (vl_cons vd_str (vl_cons vd_str (vl_cons vd_str vl_nil)))))) ⟨txts modeD, rfl, ⟨none, rfl⟩, fun i d δ hd hI => ?_, fun δ hI => ?_⟩)) nd PassesOwn.never
    · obtain ⟨m, rfl⟩ := hI
      refine vs_asg 0 (VE.to (vd_catL (vd_var 0) (vd_lcPair 2 3 (ps := pairsD) (fun a b => .tuple [d, a, b]) (vi_list (VE.to (vd_lst (vl_cons (vd_tup (vl_cons vd_str (vl_cons vd_str vl_nil))) (vl_cons (vd_tup (vl_cons vd_str (vl_cons vd_str vl_nil))) (vl_cons (vd_tup (vl_cons vd_str (vl_cons vd_str vl_nil))) (vl_cons (vd_tup (vl_cons vd_str (vl_cons vd_str vl_nil))) vl_nil))))) ⟨_, rfl, rfl⟩)) (by decide) (fun q hq D sh Hs C cl fp => ?_) rfl nd (blkOk_by (own := [("tiny", 2), ("huge", 3)]) (N := ["found", "mode", "tiny", "huge"]) (sc := defScope s__law_kinds) (by decide +kernel)) (fun _ _ _ _ _ => ?_)) ?_) (vs_nil ⟨some (.dat d), ?_⟩)) nd
      · exact vd_tup (vl_cons (vd_var 1) (vl_cons (vd_var 2) (vl_cons (vd_var 3) vl_nil)))
      · exact pg_tup rfl (pgs_cons (pg_name (i := 2) nd rfl (Or.inl rfl)) (pgs_cons (pg_name (i := 3) nd rfl (Or.inl rfl)) pgs_nil rfl) rfl) rfl rfl
      · have h1 := kinds_take_len i
        have h2 : (pairsD.map fun p => PyData.tuple [d, p.1, p.2]).length = 4 := rfl
        omega
      · rw [flat_take hd]; rfl
    · obtain ⟨m, rfl⟩ := hI
      rw [List.take_length]
      exact vs_ret (vd_var 0)
/-! ### _law_all -/
def A_lall : List PyData → PyData → Prop := fun ds d => ∃ (p : Nat) (lows : List Int), lows.length ≤ 20 ∧ ds = [.int p, .list (lows.map .int)] ∧ d = .list ((someF p lows (List.range 21)).map encF)
theorem df__law_all (T : Txt w K mg) : Df P w K mg base "_law_all" 2 (spD K A_lall) := by
  have D1 := df__law_kinds (P := P) (w := w) (base := base) T
  refine df_of T.a__law_all sc__law_all (fun ds d h => ?_) (fun fa cdv A' outer s H E S' ds d hr h => ?_)
  · obtain ⟨p, lows, _, rfl, _⟩ := h; rfl
  · obtain ⟨p, lows, hl, rfl, rfl⟩ := h
    have nd := sc__law_all.nd
    refine vs_asg 2 (VE.to (vd_lst vl_nil) ?_) nd
    refine vs_for 3 (fun i δ => ∃ m n, δ = [some (.dat (.int p)), some (.dat (.list (lows.map .int))), some (.dat (.list (((lows.take i).flatMap (spanF p)).map encF))), m, n, none])
      (vi_list (VE.to (vd_var 1) ⟨_, rfl, ⟨none, none, rfl⟩, fun i d δ hd hI => ?_, fun δ hI => ?_⟩)) nd PassesOwn.never
    · obtain ⟨m, n, rfl⟩ := hI
      rw [List.getElem?_map] at hd
      obtain ⟨l, hlo, rfl⟩ := Option.map_eq_some_iff.mp hd
      refine vs_for 4 (fun j δ => ∃ n, δ = [some (.dat (.int p)), some (.dat (.list (lows.map .int))), some (.dat (.list ((((lows.take i).flatMap (spanF p)) ++ (((List.range 21).take j).flatMap (rowF p l))).map encF))), some (.dat (.int l)), n, none])
        (vi_range1 T.m_range (VE.to vd_int ⟨21, rfl, ⟨by decide, by decide⟩, ⟨n, by rw [List.take_zero, List.flatMap_nil, List.append_nil]; rfl⟩, fun j d δ hd hI => ?_, fun δ hI => ?_⟩)) nd PassesOwn.never
      · obtain ⟨n, rfl⟩ := hI
        obtain ⟨hj, e⟩ : j < 21 ∧ d = .int (j : Int) := rngD_at hd
        subst e
        refine vs_asg 2 (VE.to (vd_catL (vd_var 2) (vd_lcm 5 (kindF p l j) (vi_list (VE.to (vd_call0 D1 hr (by decide) ⟨rfl, rfl⟩) ⟨_, rfl, rfl⟩)) (by decide +kernel) (fun d hd D sh Hs C cl fp => ?_) nd (blkOk_by (own := [("kind", 5)]) (N := ["p", "lows", "found", "low", "span", "kind"]) (sc := defScope s__law_all) (by decide +kernel)) (fun _ _ _ _ _ => pg_name (i := 5) nd rfl (Or.inl rfl))) ?_) (vs_nil ⟨some (.dat (.int (j : Int))), ?_⟩)) nd
        · obtain ⟨a, b, c, rfl⟩ := kinds_tup hd
          exact vd_catT (vd_tup (vl_cons (vd_var 0) (vl_cons (vd_var 3) (vl_cons (vd_add (vd_var 3) (vd_var 4)) vl_nil)))) (vd_var 5)
        · rw [List.length_map, List.length_append, flat_len (spanF_len p), flat_len (n := 20) (fun _ => rfl), List.length_take, List.length_take, List.length_map, show kindsD.length = 20 from rfl]
          have : min i lows.length * 420 ≤ 20 * 420 := Nat.mul_le_mul (by omega) (Nat.le_refl _)
          have : min j (List.range 21).length ≤ 21 := by rw [List.length_range]; omega
          omega
        · rw [flat_take (List.getElem?_range hj), kinds_row, ← List.map_append, List.append_assoc]
          rfl
      · obtain ⟨n, rfl⟩ := hI
        rw [show (rngD 0 (Int.toNat 21)).length = 21 from rfl, show (List.range 21).take 21 = List.range 21 from rfl]
        exact vs_nil ⟨some (.dat (.int l)), n, by rw [flat_take hlo]; rfl⟩
    · obtain ⟨m, n, rfl⟩ := hI
      rw [List.length_map, List.take_length]
      exact vs_ret (vd_var 2)
/-! ### _law_profile -/
def A_lprofile : List PyData → PyData → Prop := fun ds d => ∃ f : Form, f.Ok ∧ ds = [encF f] ∧ d = .tuple (rulesD (prf f))
theorem df__law_profile (T : Txt w K mg) : Df P w K mg base "_law_profile" 2 (spD K A_lprofile) := by
  have D1 := df__law_rules (P := P) (w := w) (base := base) T
  have D2 := df__law_holds (P := P) (w := w) (base := base) T
  refine df_of T.a__law_profile sc__law_profile (fun ds d h => ?_) (fun fa cdv A' outer s H E S' ds d hr h => ?_)
  · obtain ⟨f, _, rfl, _⟩ := h; rfl
  · obtain ⟨f, ok, rfl, rfl⟩ := h
    have nd := sc__law_profile.nd
    refine vs_ret (vd_tupL T.m_tuple (VD.is (vd_lcd (ds := rulesD Rule.all) 1 (iR (holdsM f)) id (vi_list (VE.to (vd_call0 D1 hr (by decide) ⟨rfl, rfl⟩) ⟨_, rfl, rfl⟩)) (by decide) (fun d hd D sh Hs C cl fp => ?_) (fun d hd hb D sh Hs C cl fp => (vd_var 1).mono fun x e => e) nd (blkOk_by (own := [("rule", 1)]) (N := ["form", "rule"]) (sc := defScope s__law_profile) (by decide +kernel)) (fun _ _ _ _ _ => pg_name (i := 1) nd rfl (Or.inl rfl))) (congrArg PyData.list (filter_iR _ _))))
    obtain ⟨r, _, rfl⟩ := List.mem_map.mp hd
    exact vts_one (VB.is (vb_val (vd_call D2 hr (by decide) (vl_cons (vd_var 0) (vl_cons (vd_var 1) vl_nil)) ⟨f, r, ok, rfl, rfl⟩)) (iR_at _ _).symm)
/-! ### is_within -/
def A_is_within : List PyData → PyData → Prop := fun ds d => ∃ (v : PyData) (l g : Int), ds = [v, .int l, .int g] ∧ d = .bool (within v l g)
theorem df_is_within (T : Txt w K mg) : Df P w K mg base "is_within" 1 (spD K A_is_within) := by
  refine df_of T.a_is_within sc_is_within (fun ds d h => ?_) (fun fa cdv A' outer s H E S' ds d hr h => ?_)
  · obtain ⟨v, l, g, rfl, _⟩ := h; rfl
  · obtain ⟨v, l, g, rfl, rfl⟩ := h
    cases v with
    | int i => exact vs_ret (VD.is (vd_and (vd_isi T.m_isinstance T.m_int (by decide +kernel) (vd_var 0) (kit_int _)) fun _ => vd_and (vd_not (vd_isi T.m_isinstance T.m_bool (by decide +kernel) (vd_var 0) (kit_bool _))) fun _ => vd_one (vd_lele (vd_var 1) (vd_var 0) (vd_var 2))) (congrArg PyData.bool (by show (true && (!false && _)) = _; simp [within])))
    | bool b => exact vs_ret (VD.is (vd_and (vd_isi T.m_isinstance T.m_int (by decide +kernel) (vd_var 0) (kit_int _)) fun _ => vd_and (y := true) (vd_not (vd_isi T.m_isinstance T.m_bool (by decide +kernel) (vd_var 0) (kit_bool _))) fun h => by cases h) rfl)
    | none => exact vs_ret (VD.is (vd_and (y := true) (vd_isi T.m_isinstance T.m_int (by decide +kernel) (vd_var 0) (kit_int _)) fun h => by cases h) rfl)
    | str x => exact vs_ret (VD.is (vd_and (y := true) (vd_isi T.m_isinstance T.m_int (by decide +kernel) (vd_var 0) (kit_int _)) fun h => by cases h) rfl)
    | list x => exact vs_ret (VD.is (vd_and (y := true) (vd_isi T.m_isinstance T.m_int (by decide +kernel) (vd_var 0) (kit_int _)) fun h => by cases h) rfl)
    | tuple x => exact vs_ret (VD.is (vd_and (y := true) (vd_isi T.m_isinstance T.m_int (by decide +kernel) (vd_var 0) (kit_int _)) fun h => by cases h) rfl)
    | dict x => exact vs_ret (VD.is (vd_and (y := true) (vd_isi T.m_isinstance T.m_int (by decide +kernel) (vd_var 0) (kit_int _)) fun h => by cases h) rfl)
/-! ### is_format -/
def A_is_format : List PyData → PyData → Prop := fun ds d => ∃ v : PyData, fmtPre v ∧ ds = [v] ∧ d = .bool (fmtB v)
theorem df_is_format (T : Txt w K mg) : Df P w K mg base "is_format" 2 (spD K A_is_format) := by
  refine df_of T.a_is_format sc_is_format (fun ds d h => ?_) (fun fa cdv A' outer s H E S' ds d hr h => ?_)
  · obtain ⟨v, _, rfl, _⟩ := h; rfl
  · obtain ⟨v, hv, rfl, rfl⟩ := h
    have nd := sc_is_format.nd
    obtain ⟨t1, c1⟩ := T.c_LEAST_PRECISION
    obtain ⟨t2, c2⟩ := T.c_GREATEST_PRECISION
    obtain ⟨t3, c3⟩ := T.c_GREATEST_EXPONENT
    obtain ⟨t4, c4⟩ := T.c_GREATEST_SPAN
    obtain ⟨a1, m1, q1⟩ := T.c_MODES
    obtain ⟨a2, m2, q2⟩ := T.c_TINY_WAYS
    obtain ⟨a3, m3, q3⟩ := T.c_HUGE_WAYS
    by_cases ht : ∃ xs, v = .tuple xs ∧ xs.length = 6
    · obtain ⟨xs, rfl, hl⟩ := ht
      obtain ⟨p, low, high, mode, tiny, huge, rfl⟩ : ∃ a b c d e g, xs = [a, b, c, d, e, g] := by
        match xs, hl with
        | [a, b, c, d, e, g], _ => exact ⟨a, b, c, d, e, g, rfl⟩
      obtain ⟨s1, s2, s3⟩ := hv
      refine vs_ifB (VW.vt (vwb_or (vb_not (vb_val (vd_isi T.m_isinstance T.m_tuple (by decide +kernel) (vd_var 0) (kit_tuple _)))) fun _ => vwb_or1 (vb_neI (vd_len T.m_len (vd_var 0) rfl) vd_int))) (fun c => by simp [isTupD] at c) (fun _ => vs_nil ?_)
      refine vs_unp (pn_cons 1 (pn_cons 2 (pn_cons 3 (pn_cons 4 (pn_cons 5 (pn_cons 6 pn_nil nd) nd) nd) nd) nd) nd) (VE.to (vd_var 0) ⟨_, rfl, rfl, ?_⟩)
      refine vs_ifB (vb_not (vb_val (vd_call (df_is_within T) hr (by decide) (vl_cons (vd_var 1) (vl_cons (vd_gint c1) (vl_cons (vd_gint c2) vl_nil))) ⟨p, _, _, rfl, rfl⟩))) (fun c => ?_) (fun c => vs_nil ?_)
      · refine vs_ret (vd_bl.is (congrArg PyData.bool ?_))
        have c' : within p 4 10 = false := by simpa using c
        cases low <;> simp [fmtB, c']
      have w1 : within p 4 10 = true := by simpa using c
      refine vs_ifB (vb_not (vb_val (vd_call (df_is_within T) hr (by decide) (vl_cons (vd_var 2) (vl_cons (vd_neg (vd_gint c3)) (vl_cons (vd_gint c3) vl_nil))) ⟨low, _, _, rfl, rfl⟩))) (fun c => ?_) (fun c => vs_nil ?_)
      · refine vs_ret (vd_bl.is (congrArg PyData.bool ?_))
        have c' : within low (-40) 40 = false := by simpa using c
        cases low <;> simp [fmtB, w1, c']
      have w2 : within low (-40) 40 = true := by simpa using c
      obtain ⟨lo, rfl⟩ : ∃ lo, low = .int lo := by
        cases low <;> first | exact ⟨_, rfl⟩ | (simp [within] at w2)
      refine vs_ifB (vb_not (vb_val (vd_call (df_is_within T) hr (by decide) (vl_cons (vd_var 3) (vl_cons (vd_var 2) (vl_cons (vd_min2 rfl T.m_min (vd_add (vd_var 2) (vd_gint c4)) (vd_gint c3)) vl_nil))) ⟨high, _, _, rfl, rfl⟩))) (fun c => ?_) (fun c => vs_nil ?_)
      · refine vs_ret (vd_bl.is (congrArg PyData.bool ?_))
        have c' : within high lo (min (lo + 20) 40) = false := by simpa using c
        simp [fmtB, w1, w2, c']
      have w3 : within high lo (min (lo + 20) 40) = true := by simpa using c
      refine vs_ret (VD.is (vd_and (vd_inK (ds := [.str ("even" : Str), .str ("away" : Str), .str ("down" : Str), .str ("up" : Str), .str ("zero" : Str)]) (vd_var 4) m1 q1 s1 rfl) fun _ => vd_and (vd_inK (ds := [.str ("gradual" : Str), .str ("flush" : Str)]) (vd_var 5) m2 q2 s2 rfl) fun _ => vd_one (vd_inK (ds := [.str ("infinite" : Str), .str ("largest" : Str)]) (vd_var 6) m3 q3 s3 rfl)) (congrArg PyData.bool ?_))
      simp [fmtB, w1, w2, w3]
    · have hf : fmtB v = false := by
        unfold fmtB
        split
        · exact absurd ⟨_, rfl, rfl⟩ ht
        · rfl
      rw [hf]
      by_cases h2 : isTupD v = true
      · obtain ⟨xs, rfl⟩ : ∃ xs, v = .tuple xs := by cases v <;> first | exact ⟨_, rfl⟩ | cases h2
        have hl : xs.length ≠ 6 := fun z => ht ⟨xs, rfl, z⟩
        refine vs_ifB (VW.vt (vwb_or (vb_not (vb_val (vd_isi T.m_isinstance T.m_tuple (by decide +kernel) (vd_var 0) (kit_tuple _)))) fun _ => vwb_or1 (vb_neI (vd_len T.m_len (vd_var 0) rfl) vd_int))) (fun _ => vs_ret vd_bl) (fun c => ?_)
        have : ¬ ((xs.length : Int) = 6) := by omega
        simp [isTupD, this] at c
      · have h3 : isTupD v = false := by simpa using h2
        refine vs_ifB (VW.vt (vwb_or (y := true) (vb_not (vb_val (vd_isi T.m_isinstance T.m_tuple (by decide +kernel) (vd_var 0) (kit_tuple _)))) fun h => by rw [h3] at h; cases h)) (fun _ => vs_ret vd_bl) (fun c => ?_)
        rw [h3] at c; cases c
/-! ### require_format -/
def A_req_f : List PyData → PyData → Prop := fun ds d => ∃ f : Form, f.Ok ∧ ds = [encF f] ∧ d = .none
theorem df_require_format (T : Txt w K mg) : Df P w K mg base "require_format" 3 (spD K A_req_f) := by
  refine df_of T.a_require_format sc_require_format (fun ds d h => ?_) (fun fa cdv A' outer s H E S' ds d hr h => ?_)
  · obtain ⟨f, _, rfl, _⟩ := h; rfl
  · obtain ⟨f, ok, rfl, rfl⟩ := h
    obtain ⟨h1, h2⟩ := fmtB_enc ok
    refine vs_ifB (vb_not (vb_val (vd_call (df_is_format T) hr (by decide) (vl_cons (vd_var 0) vl_nil) ⟨_, h2, rfl, rfl⟩))) (fun c => ?_) (fun c => vs_nil (vs_nil rfl))
    rw [h1] at c; cases c
/-! ### _is_gradual -/
def A_grad : List PyData → PyData → Prop := fun ds d => ∃ f : Form, f.Ok ∧ ds = [encF f] ∧ d = .bool f.g
theorem df__is_gradual (T : Txt w K mg) : Df P w K mg base "_is_gradual" 1 (spD K A_grad) := by
  refine df_of T.a__is_gradual sc__is_gradual (fun ds d h => ?_) (fun fa cdv A' outer s H E S' ds d hr h => ?_)
  · obtain ⟨f, _, rfl, _⟩ := h; rfl
  · obtain ⟨f, ok, rfl, rfl⟩ := h
    have nd := sc__is_gradual.nd
    exact vs_ret (VD.is (vd_eqS (vd_ixT (vd_var 0) vd_int rfl) vd_str) (congrArg PyData.bool (dec_tiny f.g)))
/-! ### _holds_sum_sign -/
def A_h_sum : List PyData → PyData → Prop := fun ds d => ∃ f : Form, f.Ok ∧ ds = [encF f] ∧ d = .bool (holdsM f .sumSign)
theorem df__holds_sum_sign (T : Txt w K mg) : Df P w K mg base "_holds_sum_sign" 2 (spD K A_h_sum) := by
  refine df_of T.a__holds_sum_sign sc__holds_sum_sign (fun ds d h => ?_) (fun fa cdv A' outer s H E S' ds d hr h => ?_)
  · obtain ⟨f, _, rfl, _⟩ := h; rfl
  · obtain ⟨f, ok, rfl, rfl⟩ := h
    have nd := sc__holds_sum_sign.nd
    exact vs_ret (VD.is (vd_or (vd_call (df__is_gradual T) hr (by decide) (vl_cons (vd_var 0) vl_nil) ⟨f, ok, rfl, rfl⟩) (fun _ => vd_one (vd_eqS (vd_ixT (vd_var 0) vd_int rfl) vd_str))) (congrArg PyData.bool (congrArg (f.g || ·) (md_eq f.mode .up))))
/-! ### _is_largest -/
def A_larg : List PyData → PyData → Prop := fun ds d => ∃ f : Form, f.Ok ∧ ds = [encF f] ∧ d = .bool !f.inf
theorem df__is_largest (T : Txt w K mg) : Df P w K mg base "_is_largest" 1 (spD K A_larg) := by
  refine df_of T.a__is_largest sc__is_largest (fun ds d h => ?_) (fun fa cdv A' outer s H E S' ds d hr h => ?_)
  · obtain ⟨f, _, rfl, _⟩ := h; rfl
  · obtain ⟨f, ok, rfl, rfl⟩ := h
    have nd := sc__is_largest.nd
    exact vs_ret (VD.is (vd_eqS (vd_ixT (vd_var 0) vd_int rfl) vd_str) (congrArg PyData.bool (dec_largest f.inf)))
/-! ### _is_nearest -/
def A_near : List PyData → PyData → Prop := fun ds d => ∃ f : Form, f.Ok ∧ ds = [encF f] ∧ d = .bool f.mode.near
theorem df__is_nearest (T : Txt w K mg) : Df P w K mg base "_is_nearest" 1 (spD K A_near) := by
  refine df_of T.a__is_nearest sc__is_nearest (fun ds d h => ?_) (fun fa cdv A' outer s H E S' ds d hr h => ?_)
  · obtain ⟨f, _, rfl, _⟩ := h; rfl
  · obtain ⟨f, ok, rfl, rfl⟩ := h
    have nd := sc__is_nearest.nd
    refine vs_ret (VD.is (vd_in (vd_ixT (vd_var 0) vd_int rfl) (vd_tup (vl_cons vd_str (vl_cons vd_str vl_nil))) rfl rfl rfl rfl) (congrArg PyData.bool ?_))
    cases f.mode <;> decide +kernel
/-! ### _span -/
def A_span : List PyData → PyData → Prop := fun ds d => ∃ f : Form, f.Ok ∧ ds = [encF f] ∧ d = .int (f.e : Int)
theorem df__span (T : Txt w K mg) : Df P w K mg base "_span" 1 (spD K A_span) := by
  refine df_of T.a__span sc__span (fun ds d h => ?_) (fun fa cdv A' outer s H E S' ds d hr h => ?_)
  · obtain ⟨f, _, rfl, _⟩ := h; rfl
  · obtain ⟨f, ok, rfl, rfl⟩ := h
    have nd := sc__span.nd
    exact vs_ret (VD.is (vd_sub (vd_ixT (vd_var 0) vd_int rfl) (vd_ixT (vd_var 0) vd_int rfl)) (congrArg PyData.int (by omega)))
/-! ### _holds_errors -/
def A_h_err : List PyData → PyData → Prop := fun ds d => ∃ f : Form, f.Ok ∧ ds = [encF f] ∧ d = .bool (holdsM f .errTerm)
theorem df__holds_errors (T : Txt w K mg) : Df P w K mg base "_holds_errors" 2 (spD K A_h_err) := by
  refine df_of T.a__holds_errors sc__holds_errors (fun ds d h => ?_) (fun fa cdv A' outer s H E S' ds d hr h => ?_)
  · obtain ⟨f, _, rfl, _⟩ := h; rfl
  · obtain ⟨f, ok, rfl, rfl⟩ := h
    have nd := sc__holds_errors.nd
    have eh : holdsM f .errTerm = (f.g && (!f.inf || f.mode == .zero) && (f.mode.near || decide (f.e ≤ f.p))) := rfl
    rw [eh]
    refine vs_ifB (vb_not (vb_val (vd_call (df__is_gradual T) hr (by decide) (vl_cons (vd_var 0) vl_nil) ⟨f, ok, rfl, rfl⟩))) (fun c => vs_ret (VD.is vd_bl ?_)) (fun c => vs_nil ?_)
    · rw [show f.g = false by simpa using c]; rfl
    have hg : f.g = true := by simpa using c
    refine vs_ifB (VW.vt (vwb_and (vb_not (vb_val (vd_call (df__is_largest T) hr (by decide) (vl_cons (vd_var 0) vl_nil) ⟨f, ok, rfl, rfl⟩))) fun _ => vwb_and1 (vb_neS (vd_ixT (vd_var 0) vd_int rfl) vd_str))) (fun c => vs_ret (VD.is vd_bl ?_)) (fun c => vs_nil ?_)
    · rw [Bool.and_eq_true, show decide (f.mode.s = ("zero" : Str)) = (f.mode == .zero) from md_eq f.mode .zero] at c
      rw [hg, show (!f.inf) = false by simpa using c.1, show (f.mode == .zero) = false by simpa using c.2]; rfl
    refine vs_ret (VD.is (vd_or (vd_call (df__is_nearest T) hr (by decide) (vl_cons (vd_var 0) vl_nil) ⟨f, ok, rfl, rfl⟩) (fun _ => vd_one (vd_le (vd_call (df__span T) hr (by decide) (vl_cons (vd_var 0) vl_nil) ⟨f, ok, rfl, rfl⟩) (vd_ixT (vd_var 0) vd_int rfl)))) (congrArg PyData.bool ?_))
    have h2 : (!f.inf || f.mode == .zero) = true := by
      rw [show decide (f.mode.s = ("zero" : Str)) = (f.mode == .zero) from md_eq f.mode .zero] at c
      revert c
      cases f.inf <;> cases (f.mode == .zero) <;> simp
    rw [hg, h2, show decide ((f.e : Int) ≤ (f.p : Int)) = decide (f.e ≤ f.p) by rw [decide_eq_decide]; omega]; rfl
/-! ### _holds_symmetry -/
def A_h_sym : List PyData → PyData → Prop := fun ds d => ∃ f : Form, f.Ok ∧ ds = [encF f] ∧ d = .bool (holdsM f .symm)
theorem df__holds_symmetry (T : Txt w K mg) : Df P w K mg base "_holds_symmetry" 2 (spD K A_h_sym) := by
  refine df_of T.a__holds_symmetry sc__holds_symmetry (fun ds d h => ?_) (fun fa cdv A' outer s H E S' ds d hr h => ?_)
  · obtain ⟨f, _, rfl, _⟩ := h; rfl
  · obtain ⟨f, ok, rfl, rfl⟩ := h
    have nd := sc__holds_symmetry.nd
    have eh : holdsM f .symm = ((f.mode == .even || f.mode == .away || f.mode == .zero) || (f.g && !f.inf && decide (f.e = 0))) := rfl
    rw [eh]
    have ei : inF (.str f.mode.s) [.str "even", .str "away", .str "zero"] = (f.mode == .even || f.mode == .away || f.mode == .zero) := by cases f.mode <;> decide +kernel
    refine vs_ifB (VB.is (vb_in (vd_ixT (vd_var 0) vd_int rfl) (vd_tup (vl_cons vd_str (vl_cons vd_str (vl_cons vd_str vl_nil)))) rfl rfl rfl rfl) ei) (fun c => vs_ret (VD.is vd_bl ?_)) (fun c => vs_nil ?_)
    · rw [c]; rfl
    refine vs_ret (VD.is (vd_and (vd_call (df__is_gradual T) hr (by decide) (vl_cons (vd_var 0) vl_nil) ⟨f, ok, rfl, rfl⟩) (fun _ => vd_and (vd_call (df__is_largest T) hr (by decide) (vl_cons (vd_var 0) vl_nil) ⟨f, ok, rfl, rfl⟩) (fun _ => vd_one (vd_eqI (vd_call (df__span T) hr (by decide) (vl_cons (vd_var 0) vl_nil) ⟨f, ok, rfl, rfl⟩) vd_int)))) (congrArg PyData.bool ?_))
    rw [c, show decide ((f.e : Int) = 0) = decide (f.e = 0) by rw [decide_eq_decide]; omega, Bool.false_or, Bool.and_assoc]
/-! ### _holds_midpoint -/
def A_h_mid : List PyData → PyData → Prop := fun ds d => ∃ f : Form, f.Ok ∧ ds = [encF f] ∧ d = .bool (holdsM f .midp)
theorem df__holds_midpoint (T : Txt w K mg) : Df P w K mg base "_holds_midpoint" 2 (spD K A_h_mid) := by
  refine df_of T.a__holds_midpoint sc__holds_midpoint (fun ds d h => ?_) (fun fa cdv A' outer s H E S' ds d hr h => ?_)
  · obtain ⟨f, _, rfl, _⟩ := h; rfl
  · obtain ⟨f, ok, rfl, rfl⟩ := h
    have nd := sc__holds_midpoint.nd
    have ei : inF (.str f.mode.s) [.str "even", .str "down", .str "zero"] = (f.mode == .even || f.mode == .down || f.mode == .zero) := by cases f.mode <;> decide +kernel
    exact vs_ret (VD.is (vd_or (vd_call (df__is_gradual T) hr (by decide) (vl_cons (vd_var 0) vl_nil) ⟨f, ok, rfl, rfl⟩) (fun _ => vd_one (vd_in (vd_ixT (vd_var 0) vd_int rfl) (vd_tup (vl_cons vd_str (vl_cons vd_str (vl_cons vd_str vl_nil)))) rfl rfl rfl rfl))) (congrArg PyData.bool (congrArg (f.g || ·) ei)))
/-! ### _holds_average -/
def A_h_ave : List PyData → PyData → Prop := fun ds d => ∃ f : Form, f.Ok ∧ ds = [encF f] ∧ d = .bool (holdsM f .aver)
theorem df__holds_average (T : Txt w K mg) : Df P w K mg base "_holds_average" 2 (spD K A_h_ave) := by
  refine df_of T.a__holds_average sc__holds_average (fun ds d h => ?_) (fun fa cdv A' outer s H E S' ds d hr h => ?_)
  · obtain ⟨f, _, rfl, _⟩ := h; rfl
  · obtain ⟨f, ok, rfl, rfl⟩ := h
    have nd := sc__holds_average.nd
    exact vs_ret vd_bl
/-! ### _holds_add_back -/
def A_h_add : List PyData → PyData → Prop := fun ds d => ∃ f : Form, f.Ok ∧ ds = [encF f] ∧ d = .bool (holdsM f .addBack)
theorem df__holds_add_back (T : Txt w K mg) : Df P w K mg base "_holds_add_back" 2 (spD K A_h_add) := by
  refine df_of T.a__holds_add_back sc__holds_add_back (fun ds d h => ?_) (fun fa cdv A' outer s H E S' ds d hr h => ?_)
  · obtain ⟨f, _, rfl, _⟩ := h; rfl
  · obtain ⟨f, ok, rfl, rfl⟩ := h
    have nd := sc__holds_add_back.nd
    refine vs_ret (VD.is (vd_and (vd_call (df__is_gradual T) hr (by decide) (vl_cons (vd_var 0) vl_nil) ⟨f, ok, rfl, rfl⟩) (fun _ => vd_one (vd_eqI (vd_call (df__span T) hr (by decide) (vl_cons (vd_var 0) vl_nil) ⟨f, ok, rfl, rfl⟩) vd_int))) (congrArg PyData.bool ?_))
    rw [show decide ((f.e : Int) = 0) = decide (f.e = 0) by rw [decide_eq_decide]; omega]; rfl
/-! ### _holds_grouping -/
def A_h_gro : List PyData → PyData → Prop := fun ds d => ∃ f : Form, f.Ok ∧ ds = [encF f] ∧ d = .bool (holdsM f .group)
theorem df__holds_grouping (T : Txt w K mg) : Df P w K mg base "_holds_grouping" 2 (spD K A_h_gro) := by
  refine df_of T.a__holds_grouping sc__holds_grouping (fun ds d h => ?_) (fun fa cdv A' outer s H E S' ds d hr h => ?_)
  · obtain ⟨f, _, rfl, _⟩ := h; rfl
  · obtain ⟨f, ok, rfl, rfl⟩ := h
    have nd := sc__holds_grouping.nd
    refine vs_ret (VD.is (vd_eqI (vd_call (df__span T) hr (by decide) (vl_cons (vd_var 0) vl_nil) ⟨f, ok, rfl, rfl⟩) vd_int) (congrArg PyData.bool ?_))
    rw [show decide ((f.e : Int) = 0) = decide (f.e = 0) by rw [decide_eq_decide]; omega]; rfl
/-! ### _holds_absorption -/
def A_h_abs : List PyData → PyData → Prop := fun ds d => ∃ f : Form, f.Ok ∧ ds = [encF f] ∧ d = .bool (holdsM f .absorb)
theorem df__holds_absorption (T : Txt w K mg) : Df P w K mg base "_holds_absorption" 2 (spD K A_h_abs) := by
  refine df_of T.a__holds_absorption sc__holds_absorption (fun ds d h => ?_) (fun fa cdv A' outer s H E S' ds d hr h => ?_)
  · obtain ⟨f, _, rfl, _⟩ := h; rfl
  · obtain ⟨f, ok, rfl, rfl⟩ := h
    have nd := sc__holds_absorption.nd
    have eh : holdsM f .absorb = (f.mode.near && f.inf && decide (f.e ≤ if f.g then 0 else f.p - 1)) := rfl
    have p4 := ok.p4
    rw [eh]
    refine vs_ifB (VW.vt (vwb_or (vb_not (vb_val (vd_call (df__is_nearest T) hr (by decide) (vl_cons (vd_var 0) vl_nil) ⟨f, ok, rfl, rfl⟩))) fun _ => vwb_or1 (vb_val (vd_call (df__is_largest T) hr (by decide) (vl_cons (vd_var 0) vl_nil) ⟨f, ok, rfl, rfl⟩)))) (fun c => vs_ret (VD.is vd_bl ?_)) (fun c => vs_nil ?_)
    · revert c
      cases f.mode.near <;> cases f.inf <;> simp
    refine vs_ret (VD.is (vd_le (vd_call (df__span T) hr (by decide) (vl_cons (vd_var 0) vl_nil) ⟨f, ok, rfl, rfl⟩) (VD.is (d' := .int ((if f.g = true then 0 else f.p - 1 : Nat) : Int)) (vd_ite (vb_val (vd_call (df__is_gradual T) hr (by decide) (vl_cons (vd_var 0) vl_nil) ⟨f, ok, rfl, rfl⟩)) (fun _ => vd_int) (fun _ => vd_sub (vd_ixT (vd_var 0) vd_int rfl) vd_int)) ?_)) (congrArg PyData.bool ?_))
    · split
      · rfl
      · exact congrArg PyData.int (by omega)
    · have h : f.mode.near = true ∧ f.inf = true := by
        revert c
        cases f.mode.near <;> cases f.inf <;> simp
      rw [h.1, h.2, show decide ((f.e : Int) ≤ ((if f.g = true then 0 else f.p - 1 : Nat) : Int)) = decide (f.e ≤ if f.g = true then 0 else f.p - 1) by rw [decide_eq_decide]; omega]; rfl
/-! ### _holds_third -/
def A_h_thi : List PyData → PyData → Prop := fun ds d => ∃ f : Form, f.Ok ∧ ds = [encF f] ∧ d = .bool (holdsM f .third)
theorem df__holds_third (T : Txt w K mg) : Df P w K mg base "_holds_third" 2 (spD K A_h_thi) := by
  refine df_of T.a__holds_third sc__holds_third (fun ds d h => ?_) (fun fa cdv A' outer s H E S' ds d hr h => ?_)
  · obtain ⟨f, _, rfl, _⟩ := h; rfl
  · obtain ⟨f, ok, rfl, rfl⟩ := h
    have nd := sc__holds_third.nd
    have eh : holdsM f .third = decide (f.e ≤ if f.mode.near then 1 else 0) := rfl
    rw [eh]
    refine vs_ret (VD.is (vd_le (vd_call (df__span T) hr (by decide) (vl_cons (vd_var 0) vl_nil) ⟨f, ok, rfl, rfl⟩) (VD.is (d' := .int ((if f.mode.near = true then 1 else 0 : Nat) : Int)) (vd_ite (vb_val (vd_call (df__is_nearest T) hr (by decide) (vl_cons (vd_var 0) vl_nil) ⟨f, ok, rfl, rfl⟩)) (fun _ => vd_int) (fun _ => vd_int)) (by split <;> rfl))) (congrArg PyData.bool ?_))
    rw [decide_eq_decide]; omega
/-! ### _holds_halves -/
def A_h_hal : List PyData → PyData → Prop := fun ds d => ∃ f : Form, f.Ok ∧ ds = [encF f] ∧ d = .bool (holdsM f .halves)
theorem df__holds_halves (T : Txt w K mg) : Df P w K mg base "_holds_halves" 2 (spD K A_h_hal) := by
  refine df_of T.a__holds_halves sc__holds_halves (fun ds d h => ?_) (fun fa cdv A' outer s H E S' ds d hr h => ?_)
  · obtain ⟨f, _, rfl, _⟩ := h; rfl
  · obtain ⟨f, ok, rfl, rfl⟩ := h
    have nd := sc__holds_halves.nd
    exact vs_ret vd_bl
/-! ### _holds_squares -/
def A_h_squ : List PyData → PyData → Prop := fun ds d => ∃ f : Form, f.Ok ∧ ds = [encF f] ∧ d = .bool (holdsM f .squares)
theorem df__holds_squares (T : Txt w K mg) : Df P w K mg base "_holds_squares" 2 (spD K A_h_squ) := by
  refine df_of T.a__holds_squares sc__holds_squares (fun ds d h => ?_) (fun fa cdv A' outer s H E S' ds d hr h => ?_)
  · obtain ⟨f, _, rfl, _⟩ := h; rfl
  · obtain ⟨f, ok, rfl, rfl⟩ := h
    have nd := sc__holds_squares.nd
    have eh : holdsM f .squares = (f.mode == .up || decide ((if f.mode == .away then (-1 : Int) else 0) ≤ if f.g then f.low else f.low + f.p - 1)) := rfl
    rw [eh]
    refine vs_unp (pn_cons 1 (pn_cons 2 (pn_cons 3 (pn_cons 4 pn_nil nd) nd) nd) nd) ((vd_slT (vd_var 0) vo_none (vo_some vd_int) (by show ¬ (HT.sIx 6 0 none = 0 ∧ HT.sIx 6 6 (some 4) = 6); decide)).to ⟨_, rfl, rfl, ?_⟩)
    refine vs_ifB (VB.is (vb_eqS (vd_var 4) vd_str) (show decide (f.mode.s = ("up" : Str)) = (f.mode == .up) from md_eq f.mode .up)) (fun c => vs_ret (VD.is vd_bl ?_)) (fun c => vs_nil ?_)
    · rw [c]; rfl
    refine vs_asg 5 (VE.to (VD.is (d' := .int (if f.g = true then f.low else f.low + f.p - 1)) (vd_ite (vb_val (vd_call (df__is_gradual T) hr (by decide) (vl_cons (vd_var 0) vl_nil) ⟨f, ok, rfl, rfl⟩)) (fun _ => vd_var 2) (fun _ => vd_sub (vd_add (vd_var 2) (vd_var 1)) vd_int)) (by split <;> rfl)) ?_) nd
    refine vs_ret (VD.is (vd_ge (vd_var 5) (VD.is (d' := .int (if (f.mode == .away) = true then -1 else 0)) (vd_ite (VB.is (vb_eqS (vd_var 4) vd_str) (show decide (f.mode.s = ("away" : Str)) = (f.mode == .away) from md_eq f.mode .away)) (fun _ => vd_neg vd_int) (fun _ => vd_int)) (by split <;> rfl))) (congrArg PyData.bool ?_))
    rw [c]; rfl
/-! ### require_rule -/
def A_req_r : List PyData → PyData → Prop := fun ds d => ∃ r : Rule, ds = [.str r.s] ∧ d = .none
theorem df_require_rule (T : Txt w K mg) : Df P w K mg base "require_rule" 1 (spD K A_req_r) := by
  obtain ⟨t, hm, hq⟩ := T.c_RULES
  refine df_of T.a_require_rule sc_require_rule (fun ds d h => ?_) (fun fa cdv A' outer s H E S' ds d hr h => ?_)
  · obtain ⟨r, rfl, _⟩ := h; rfl
  · obtain ⟨r, rfl, rfl⟩ := h
    refine vs_ifB (vb_inK true (ds := Rule.all.map fun r => .str r.s) (vd_var 0) hm hq rfl rfl) (fun c => ?_) (fun c => vs_nil (vs_nil rfl))
    have : inF (.str r.s) (Rule.all.map fun r => .str r.s) = true := by cases r <;> decide +kernel
    rw [this] at c
    cases c
/-! ### holds -/
def A_dec (r : Rule) : List PyData → PyData → Prop := fun ds d => ∃ f : Form, f.Ok ∧ ds = [encF f] ∧ d = .bool (holdsM f r)
theorem dec_at (T : Txt w K mg) : ∃ a, mg "DECISIONS" = some (.ref a) ∧ ∀ r : Rule, ∃ n g, mg n = some (.ref g) ∧ KDct K w a r.s (.ref g) ∧ Df P w K mg base n 2 (spD K (A_dec r)) := by
  obtain ⟨a, hm, hq⟩ := T.c_DECISIONS
  refine ⟨a, hm, fun r => ?_⟩
  cases r with
  | sumSign =>
    obtain ⟨g, g1, g2⟩ := hq.get (z := Rule.s .sumSign) (n := "_holds_sum_sign") (by simp [Rule.s])
    exact ⟨_, g, g1, g2, Df.mono (df__holds_sum_sign T) (by decide)⟩
  | zeroDiff =>
    obtain ⟨g, g1, g2⟩ := hq.get (z := Rule.s .zeroDiff) (n := "_is_gradual") (by simp [Rule.s])
    exact ⟨_, g, g1, g2, Df.mono (df__is_gradual T) (by decide)⟩
  | closeDiff =>
    obtain ⟨g, g1, g2⟩ := hq.get (z := Rule.s .closeDiff) (n := "_is_gradual") (by simp [Rule.s])
    exact ⟨_, g, g1, g2, Df.mono (df__is_gradual T) (by decide)⟩
  | errTerm =>
    obtain ⟨g, g1, g2⟩ := hq.get (z := Rule.s .errTerm) (n := "_holds_errors") (by simp [Rule.s])
    exact ⟨_, g, g1, g2, Df.mono (df__holds_errors T) (by decide)⟩
  | fastErr =>
    obtain ⟨g, g1, g2⟩ := hq.get (z := Rule.s .fastErr) (n := "_holds_errors") (by simp [Rule.s])
    exact ⟨_, g, g1, g2, Df.mono (df__holds_errors T) (by decide)⟩
  | symm =>
    obtain ⟨g, g1, g2⟩ := hq.get (z := Rule.s .symm) (n := "_holds_symmetry") (by simp [Rule.s])
    exact ⟨_, g, g1, g2, Df.mono (df__holds_symmetry T) (by decide)⟩
  | midp =>
    obtain ⟨g, g1, g2⟩ := hq.get (z := Rule.s .midp) (n := "_holds_midpoint") (by simp [Rule.s])
    exact ⟨_, g, g1, g2, Df.mono (df__holds_midpoint T) (by decide)⟩
  | aver =>
    obtain ⟨g, g1, g2⟩ := hq.get (z := Rule.s .aver) (n := "_holds_average") (by simp [Rule.s])
    exact ⟨_, g, g1, g2, Df.mono (df__holds_average T) (by decide)⟩
  | addBack =>
    obtain ⟨g, g1, g2⟩ := hq.get (z := Rule.s .addBack) (n := "_holds_add_back") (by simp [Rule.s])
    exact ⟨_, g, g1, g2, Df.mono (df__holds_add_back T) (by decide)⟩
  | group =>
    obtain ⟨g, g1, g2⟩ := hq.get (z := Rule.s .group) (n := "_holds_grouping") (by simp [Rule.s])
    exact ⟨_, g, g1, g2, Df.mono (df__holds_grouping T) (by decide)⟩
  | absorb =>
    obtain ⟨g, g1, g2⟩ := hq.get (z := Rule.s .absorb) (n := "_holds_absorption") (by simp [Rule.s])
    exact ⟨_, g, g1, g2, Df.mono (df__holds_absorption T) (by decide)⟩
  | third =>
    obtain ⟨g, g1, g2⟩ := hq.get (z := Rule.s .third) (n := "_holds_third") (by simp [Rule.s])
    exact ⟨_, g, g1, g2, Df.mono (df__holds_third T) (by decide)⟩
  | halves =>
    obtain ⟨g, g1, g2⟩ := hq.get (z := Rule.s .halves) (n := "_holds_halves") (by simp [Rule.s])
    exact ⟨_, g, g1, g2, Df.mono (df__holds_halves T) (by decide)⟩
  | squares =>
    obtain ⟨g, g1, g2⟩ := hq.get (z := Rule.s .squares) (n := "_holds_squares") (by simp [Rule.s])
    exact ⟨_, g, g1, g2, Df.mono (df__holds_squares T) (by decide)⟩
def A_holds : List PyData → PyData → Prop := fun ds d => ∃ (f : Form) (r : Rule), f.Ok ∧ ds = [encF f, .str r.s] ∧ d = .bool (holdsM f r)
theorem df_holds (T : Txt w K mg) : Df P w K mg base "holds" 4 (spD K A_holds) := by
  obtain ⟨qc, hc, hqc⟩ := dec_at (P := P) (base := base) T
  have D1 := df_require_format (P := P) (w := w) (base := base) T
  have D2 := df_require_rule (P := P) (w := w) (base := base) T
  refine df_of T.a_holds sc_holds (fun ds d h => ?_) (fun fa cdv A' outer s H E S' ds d hr h => ?_)
  · obtain ⟨f, r, _, rfl, _⟩ := h; rfl
  · obtain ⟨f, r, ok, rfl, rfl⟩ := h
    have nd := sc_holds.nd
    obtain ⟨n, g, g1, g2, G⟩ := hqc r
    refine vs_expr (VE.to (vd_call D1 hr (by decide) (vl_cons (vd_var 0) vl_nil) ⟨f, ok, rfl, rfl⟩) ?_)
    refine vs_expr (VE.to (vd_call D2 hr (by decide) (vl_cons (vd_var 1) vl_nil) ⟨r, rfl, rfl⟩) ?_)
    refine vs_asgR 2 (vr_kd (vr_glob hc rfl) (vd_var 1) g2) ?_ nd
    exact vs_ret (vd_callL 2 G g1 hr (by decide) (vl_cons (vd_var 0) vl_nil) ⟨f, ok, rfl, rfl⟩)
/-! ### profile -/
def A_profile : List PyData → PyData → Prop := fun ds d => ∃ f : Form, f.Ok ∧ ds = [encF f] ∧ d = .tuple (rulesD (Rule.all.filter (holdsM f)))
theorem df_profile (T : Txt w K mg) : Df P w K mg base "profile" 5 (spD K A_profile) := by
  obtain ⟨t, hm, hq⟩ := T.c_RULES
  have D1 := df_require_format (P := P) (w := w) (base := base) T
  have D2 := df_holds (P := P) (w := w) (base := base) T
  refine df_of T.a_profile sc_profile (fun ds d h => ?_) (fun fa cdv A' outer s H E S' ds d hr h => ?_)
  · obtain ⟨f, _, rfl, _⟩ := h; rfl
  · obtain ⟨f, ok, rfl, rfl⟩ := h
    have nd := sc_profile.nd
    refine vs_expr (VE.to (vd_call D1 hr (by decide) (vl_cons (vd_var 0) vl_nil) ⟨f, ok, rfl, rfl⟩) ?_)
    refine vs_ret (vd_tupL T.m_tuple (VD.is (vd_lcd (ds := rulesD Rule.all) 1 (iR (holdsM f)) id (vi_tup (VE.to (vd_globT hm hq (T.d_RULES _ hm) rfl) ⟨_, rfl, rfl⟩)) (by decide) (fun d hd D sh Hs C cl fp => ?_) (fun d hd hb D sh Hs C cl fp => (vd_var 1).mono fun x e => e) nd (blkOk_by (own := [("rule", 1)]) (N := ["form", "rule"]) (sc := defScope s_profile) (by decide +kernel)) (fun _ _ _ _ _ => pg_name (i := 1) nd rfl (Or.inl rfl))) (congrArg PyData.list (filter_iR _ _))))
    obtain ⟨r, _, rfl⟩ := List.mem_map.mp hd
    exact vts_one (VB.is (vb_val (vd_call D2 hr (by decide) (vl_cons (vd_var 0) (vl_cons (vd_var 1) vl_nil)) ⟨f, r, ok, rfl, rfl⟩)) (iR_at _ _).symm)
/-! ### _first_formats -/
def A_first : List PyData → PyData → Prop := fun ds d => ds = [] ∧ d = .list (firstF.map encF)
theorem df__first_formats (T : Txt w K mg) : Df P w K mg base "_first_formats" 1 (spD K A_first) := by
  obtain ⟨t1, m1, q1⟩ := T.c_FIRST_EXPONENTS
  obtain ⟨t2, m2, q2⟩ := T.c_FIRST_SPANS
  obtain ⟨t3, m3, q3⟩ := T.c_MODES
  obtain ⟨t4, m4, q4⟩ := T.c_TINY_WAYS
  obtain ⟨t5, m5, q5⟩ := T.c_HUGE_WAYS
  obtain ⟨t6, m6⟩ := T.c_FIRST_PRECISION
  refine df_of T.a__first_formats sc__first_formats (fun ds d h => ?_) (fun fa cdv A' outer s H E S' ds d hr h => ?_)
  · obtain ⟨rfl, _⟩ := h; rfl
  · obtain ⟨rfl, rfl⟩ := h
    have nd := sc__first_formats.nd
    refine vs_ret (VD.is (vd_lcs (f := ⟨"low", _, 0, _, lowD⟩) (r := [⟨"span", _, 1, _, spanD⟩, ⟨"mode", _, 2, _, txts modeD⟩, ⟨"tiny", _, 3, _, txts tinyD⟩, ⟨"huge", _, 4, _, txts hugeD⟩]) (g := G1) (d0 := .tuple lowD) rfl (vd_globT m1 q1 (T.d_FIRST_EXPONENTS _ m1) rfl) (fun d hd => ?_) rfl ?_ nd (blkOk_by (own := [("low", 0), ("span", 1), ("mode", 2), ("tiny", 3), ("huge", 4)]) (N := ["low", "span", "mode", "tiny", "huge"]) (sc := defScope s__first_formats) (by decide +kernel)) ?_ ?_) (congrArg PyData.list first_eq))
    · obtain ⟨l, rfl⟩ : ∃ l, d = .int l := by
        simp only [lowD, List.mem_cons, List.not_mem_nil, or_false] at hd
        rcases hd with rfl | rfl | rfl | rfl | rfl <;> exact ⟨_, rfl⟩
      refine ⟨⟨.tuple spanD, rfl, fun D sh Hs C cl fp => vd_globT m2 q2 (T.d_FIRST_SPANS _ m2) rfl⟩, G2 l, rfl, rfl, fun d hd => ?_⟩
      obtain ⟨e, rfl⟩ : ∃ l, d = .int l := by
        simp only [spanD, List.mem_cons, List.not_mem_nil, or_false] at hd
        rcases hd with rfl | rfl | rfl | rfl | rfl <;> exact ⟨_, rfl⟩
      refine ⟨⟨.list (txts modeD), rfl, fun D sh Hs C cl fp => vd_sortedX (zs := ["even", "away", "down", "up", "zero"]) hr.units T.m_sorted (vd_globT m3 q3 (T.d_MODES _ m3) rfl) (by decide +kernel) (by decide +kernel) (by decide)⟩, G3 l e, rfl, rfl, fun d hd => ?_⟩
      obtain ⟨m, rfl⟩ : ∃ l, d = .str l := by
        obtain ⟨x, _, rfl⟩ := List.mem_map.mp hd
        exact ⟨_, rfl⟩
      refine ⟨⟨.list (txts tinyD), rfl, fun D sh Hs C cl fp => vd_sortedX (zs := ["gradual", "flush"]) hr.units T.m_sorted (vd_globT m4 q4 (T.d_TINY_WAYS _ m4) rfl) (by decide +kernel) (by decide +kernel) (by decide)⟩, G4 l e m, rfl, rfl, fun d hd => ?_⟩
      obtain ⟨g, rfl⟩ : ∃ l, d = .str l := by
        obtain ⟨x, _, rfl⟩ := List.mem_map.mp hd
        exact ⟨_, rfl⟩
      refine ⟨⟨.list (txts hugeD), rfl, fun D sh Hs C cl fp => vd_sortedX (zs := ["infinite", "largest"]) hr.units T.m_sorted (vd_globT m5 q5 (T.d_HUGE_WAYS _ m5) rfl) (by decide +kernel) (by decide +kernel) (by decide)⟩, G5 l e m g, rfl, rfl, fun d hd => ?_⟩
      obtain ⟨i, rfl⟩ : ∃ l, d = .str l := by
        obtain ⟨x, _, rfl⟩ := List.mem_map.mp hd
        exact ⟨_, rfl⟩
      exact ⟨_, rfl, fun D sh Hs C cl fp => vd_tup (vl_cons (vd_gint m6) (vl_cons (vd_var 0) (vl_cons (vd_add (vd_var 0) (vd_var 1)) (vl_cons (vd_var 2) (vl_cons (vd_var 3) (vl_cons (vd_var 4) vl_nil))))))⟩
    · rw [first_eq, List.length_map, firstF_len]; decide
    · intro f' h'
      simp only [List.mem_cons, List.not_mem_nil, or_false] at h'
      rcases h' with rfl | rfl | rfl | rfl | rfl
      · exact fun _ _ _ _ _ => pg_name (i := 0) nd rfl (Or.inl rfl)
      · exact fun _ _ _ _ _ => pg_name (i := 1) nd rfl (Or.inl rfl)
      · exact fun _ _ _ _ _ => pg_name (i := 2) nd rfl (Or.inl rfl)
      · exact fun _ _ _ _ _ => pg_name (i := 3) nd rfl (Or.inl rfl)
      · exact fun _ _ _ _ _ => pg_name (i := 4) nd rfl (Or.inl rfl)
    · intro f' h'
      simp only [List.mem_cons, List.not_mem_nil, or_false] at h'
      rcases h' with rfl | rfl | rfl | rfl | rfl <;> exact fun _ _ => rfl
/-! ### profiles -/
def A_profiles : List PyData → PyData → Prop := fun ds d => ds = [] ∧ d = .tuple (profs.map fun ws => .tuple (rulesD ws))
theorem df_profiles (T : Txt w K mg) : Df P w K mg base "profiles" 6 (spD K A_profiles) := by
  have D1 := df__first_formats (P := P) (w := w) (base := base) T
  have D2 := df_profile (P := P) (w := w) (base := base) T
  refine df_of T.a_profiles sc_profiles (fun ds d h => ?_) (fun fa cdv A' outer s H E S' ds d hr h => ?_)
  · obtain ⟨rfl, _⟩ := h; rfl
  · obtain ⟨rfl, rfl⟩ := h
    have nd := sc_profiles.nd
    refine vs_ret (vd_tupL T.m_tuple (VD.is (vd_sortSC 0 kfP (profs.map keyR) hr.units T.m_sorted (d0 := .list (firstF.map encF)) rfl (vd_call0 D1 hr (by decide) ⟨rfl, rfl⟩) (fun d hd D sh Hs C cl fp => ?_) ?_ ?_ ?_ (by decide +kernel) profs_asc rfl nd (blkOk_by (own := [("form", 0)]) (N := ["form"]) (sc := defScope s_profiles) (by decide +kernel)) (fun _ _ _ _ _ => pg_name (i := 0) nd rfl (Or.inl rfl))) (congrArg PyData.list ?_)))
    · obtain ⟨f, hf, rfl⟩ := List.mem_map.mp hd
      rw [kfP_enc, tupK_key]
      exact vd_call D2 hr (by decide) (vl_cons (vd_var 0) vl_nil) ⟨f, firstF_ok f hf, rfl, rfl⟩
    · intro k hk e
      obtain ⟨ws, hw, rfl⟩ := List.mem_map.mp hk
      exact profs_ne ws hw (List.map_eq_nil_iff.mp e)
    · intro d hd
      obtain ⟨f, hf, rfl⟩ := List.mem_map.mp hd
      rw [kfP_enc]
      exact List.mem_map.mpr ⟨_, profs_in f hf, rfl⟩
    · intro k hk
      obtain ⟨ws, hw, rfl⟩ := List.mem_map.mp hk
      obtain ⟨f, hf, rfl⟩ := profs_of ws hw
      exact ⟨_, List.mem_map.mpr ⟨f, hf, rfl⟩, kfP_enc f⟩
    · rw [List.map_map]
      exact List.map_congr_left fun ws _ => tupK_key ws
/-! ### parting -/
def partB (r q : Rule) (f : Form) : Bool := holdsM f r && !holdsM f q
def partD : Option Form → PyData
  | some f => encF f
  | none => .none
def A_parting : List PyData → PyData → Prop := fun ds d => ∃ r q : Rule, ds = [.str r.s, .str q.s] ∧ d = partD (firstF.find? (partB r q))
theorem df_parting (T : Txt w K mg) : Df P w K mg base "parting" 6 (spD K A_parting) := by
  have D1 := df__first_formats (P := P) (w := w) (base := base) T
  have D2 := df_holds (P := P) (w := w) (base := base) T
  have D3 := df_require_rule (P := P) (w := w) (base := base) T
  refine df_of T.a_parting sc_parting (fun ds d h => ?_) (fun fa cdv A' outer s H E S' ds d hr h => ?_)
  · obtain ⟨r, q, rfl, _⟩ := h; rfl
  · obtain ⟨r, q, rfl, rfl⟩ := h
    have nd := sc_parting.nd
    refine vs_expr (VE.to (vd_call D3 hr (by decide) (vl_cons (vd_var 0) vl_nil) ⟨r, rfl, rfl⟩) ?_)
    refine vs_expr (VE.to (vd_call D3 hr (by decide) (vl_cons (vd_var 1) vl_nil) ⟨q, rfl, rfl⟩) ?_)
    refine vs_for 2 (fun j δ => (∃ fo, δ = [some (.dat (.str r.s)), some (.dat (.str q.s)), fo]) ∧ ∀ f ∈ firstF.take j, partB r q f = false)
      (vi_list (VE.to (vd_call0 D1 hr (by decide) ⟨rfl, rfl⟩) ⟨_, rfl, ⟨⟨_, rfl⟩, fun f hf => by rw [List.take_zero] at hf; cases hf⟩, fun j d δ hd hI => ?_, fun δ hI => ?_⟩)) nd PassesOwn.never
    · obtain ⟨⟨fo, rfl⟩, hno⟩ := hI
      rw [List.getElem?_map] at hd
      obtain ⟨f, hf, rfl⟩ := Option.map_eq_some_iff.mp hd
      have ok := firstF_ok f (List.mem_of_getElem? hf)
      have tk : firstF.take (j + 1) = firstF.take j ++ [f] := by rw [List.take_add_one, hf]; rfl
      refine vs_ifB (t := partB r q f) (VW.vt (vwb_and (vb_val (vd_call D2 hr (by decide) (vl_cons (vd_var 2) (vl_cons (vd_var 0) vl_nil)) ⟨f, r, ok, rfl, rfl⟩)) fun _ => vwb_and1 (vb_not (vb_val (vd_call D2 hr (by decide) (vl_cons (vd_var 2) (vl_cons (vd_var 1) vl_nil)) ⟨f, q, ok, rfl, rfl⟩))))) (fun c => ?_) (fun c => vs_nil (vs_nil ⟨⟨_, rfl⟩, fun g hg => ?_⟩))
      · refine vs_ret (VD.is (vd_var 2) ?_)
        have e : firstF.find? (partB r q) = some f := by
          have hj : firstF = firstF.take j ++ f :: firstF.drop (j + 1) := by
            have := List.take_append_drop (j + 1) firstF
            rw [tk] at this
            simpa using this.symm
          rw [hj, List.find?_append, List.find?_eq_none.mpr (fun x hx => by rw [hno x hx]; exact Bool.false_ne_true)]
          simp [List.find?_cons, c]
        rw [e]; rfl
      · rw [tk] at hg
        rcases List.mem_append.mp hg with z | z
        · exact hno g z
        · rw [List.mem_singleton.mp z]; exact c
    · obtain ⟨⟨fo, rfl⟩, hno⟩ := hI
      rw [List.length_map, List.take_length] at hno
      refine vs_ret (VD.is vd_non ?_)
      rw [List.find?_eq_none.mpr (fun x hx => by rw [hno x hx]; exact Bool.false_ne_true)]
      rfl
/-! ### implies -/
def A_implies : List PyData → PyData → Prop := fun ds d => ∃ r q : Rule, ds = [.str r.s, .str q.s] ∧ d = .bool (firstF.find? (partB r q)).isNone
theorem df_implies (T : Txt w K mg) : Df P w K mg base "implies" 7 (spD K A_implies) := by
  have D1 := df_parting (P := P) (w := w) (base := base) T
  refine df_of T.a_implies sc_implies (fun ds d h => ?_) (fun fa cdv A' outer s H E S' ds d hr h => ?_)
  · obtain ⟨r, q, rfl, _⟩ := h; rfl
  · obtain ⟨r, q, rfl, rfl⟩ := h
    have nd := sc_implies.nd
    refine vs_ret (VD.is (vd_isN (vd_call D1 hr (by decide) (vl_cons (vd_var 0) (vl_cons (vd_var 1) vl_nil)) ⟨r, q, rfl, rfl⟩) vd_non) (congrArg PyData.bool ?_))
    cases firstF.find? (partB r q) <;> rfl
/-! ### law -/
theorem dpt_rules (ws : List Rule) (h : ws.length ≤ 14) : dpt 1 (.tuple (rulesD ws)) := by
  refine ⟨by show (rulesD ws).length ≤ 1000; unfold rulesD; rw [List.length_map]; omega, fun x hx => ?_⟩
  obtain ⟨r, _, rfl⟩ := List.mem_map.mp hx
  trivial
theorem prf_len (f : Form) : (prf f).length ≤ 14 := List.length_filter_le _ _
def Ns : List Str := ["script", "row", "form", "some", "one", "other", "due", "each", "told", "near", "whole", "lists", "shown"]
theorem ok_law (T : Txt w K mg) {f : Addr} {fd : FuncData} (Fu : Fun K "law" "law" s_law f fd) : FnOk P w K mg base CX0 30 f fd ["script"] (spLaw K) := by
  have DA := df__law_alike (P := P) (w := w) (base := base) T 0
  have DA1 := df__law_alike (P := P) (w := w) (base := base) T 1
  have DF := df__law_format (P := P) (w := w) (base := base) T
  have DP := df__law_pick (P := P) (w := w) (base := base) T
  have DK := df__law_taken (P := P) (w := w) (base := base) T
  have DLR := df__law_rules (P := P) (w := w) (base := base) T
  have DLH := df__law_holds (P := P) (w := w) (base := base) T
  have DLA := df__law_all (P := P) (w := w) (base := base) T
  have DLP := df__law_profile (P := P) (w := w) (base := base) T
  have DPr := df_profile (P := P) (w := w) (base := base) T
  have DPs := df_profiles (P := P) (w := w) (base := base) T
  have DPt := df_parting (P := P) (w := w) (base := base) T
  have DIm := df_implies (P := P) (w := w) (base := base) T
  refine law_of (k := 29) Fu sc_law (by decide) (by decide) rfl rfl rfl rfl (by first | exact .inl rfl | exact .inr rfl) (fun fa cdv A' outer s H E F r a hr hF => ?_) (fun _ => rfl) (fun X h => by rfl)
  have nd := sc_law.nd
  refine vs_asg 2 (ve_draw 1 hF DF hr (by decide) (VA.to (vl_cons vd_int vl_nil) ⟨_, ⟨20, by decide, by decide, rfl, rfl⟩, fun d ⟨f, ok, he, hd⟩ => ?_⟩)) nd
  subst hd
  clear he
  refine vs_ifB (VB.is (d' := false) (vb_not (vb_val (vd_call DA1 hr (by decide) (vl_cons (vd_call DPr hr (by decide) (vl_cons (vd_var 2) vl_nil) ⟨f, ok, rfl, rfl⟩) (vl_cons (vd_call DLP hr (by decide) (vl_cons (vd_var 2) vl_nil) ⟨f, ok, rfl, rfl⟩) vl_nil)) ⟨.tuple (rulesD (prf f)), dpt_rules _ (prf_len f), rfl, rfl⟩))) rfl) (fun c => by cases c) (fun _ => vs_nil ?_)
  refine vs_asg 3 (ve_call DLA hr (by decide) (va_cons <| ve_pick 1 hF DP hr (by decide) (VE.to (vd_lst (vl_cons vd_int (vl_cons vd_int (vl_cons vd_int vl_nil)))) ⟨_, rfl, by simp, by simp, fun x hx => ?_⟩))) nd
  obtain ⟨p, hp, rfl⟩ : ∃ p : Nat, (p = 4 ∨ p = 5 ∨ p = 10) ∧ x = .int p := by
    simp only [List.mem_cons, List.not_mem_nil, or_false] at hx
    rcases hx with rfl | rfl | rfl
    · exact ⟨4, .inl rfl, rfl⟩
    · exact ⟨5, .inr (.inl rfl), rfl⟩
    · exact ⟨10, .inr (.inr rfl), rfl⟩
  clear hx
  refine VA.to (vl_cons (VD.is (d' := .list (lows8.map .int)) (vd_lst (vl_cons (vd_sub vd_int vd_int) (vl_cons (vd_sub vd_int vd_int) (vl_cons (vd_sub vd_int vd_int) (vl_cons (vd_sub vd_int vd_int) (vl_cons (vd_sub vd_int vd_int) (vl_cons (vd_sub vd_int vd_int) (vl_cons (vd_sub vd_int vd_int) (vl_cons vd_int vl_nil))))))))) rfl) vl_nil) ⟨_, ⟨p, lows8, by decide, rfl, rfl⟩, ?_⟩
  have fu := full8 hp
  have fk : ∀ f ∈ someF p lows8 (List.range 21), f.Ok := fu.1
  have fl : (someF p lows8 (List.range 21)).length = 3360 := by rw [some_len]; rfl
  generalize someF p lows8 (List.range 21) = fs at fu fk fl
  clear hp
  refine vs_unp (pn_cons 4 (pn_cons 5 pn_nil nd) nd) (ve_tup <| va_cons <| ve_pick 1 hF DP hr (by decide) (VE.to (vd_call0 DLR hr (by decide) ⟨rfl, rfl⟩) ⟨_, rfl, by simp [Rule.all], by simp [Rule.all], fun d hd => ?_⟩))
  obtain ⟨ru, _, rfl⟩ := List.mem_map.mp hd
  clear hd
  refine va_cons <| ve_pick 1 hF DP hr (by decide) (VE.to (vd_call0 DLR hr (by decide) ⟨rfl, rfl⟩) ⟨_, rfl, by simp [Rule.all], by simp [Rule.all], fun d hd => ?_⟩)
  obtain ⟨ot, _, rfl⟩ := List.mem_map.mp hd
  clear hd
  refine va_nil ⟨sz_le (by simp), _, rfl, rfl, ?_⟩
  show VS _ _ _ [some (.raw (.ref a)), some (.raw (.ref r)), some (.dat (encF f)), some (.dat (.list (fs.map encF))), some (.dat (.str ru.s)), some (.dat (.str ot.s)), none, none, none, none, none, none, none] _
  have dueE : (fs.filter fun g => partB ru ot g).isEmpty = (firstF.find? (partB ru ot)).isNone := by
    rw [empty_any, isNone_any]
    congr 1
    exact full_any fu first_full ru ot
  refine vs_asg 6 (VE.to (VD.is (d' := .bool (firstF.find? (partB ru ot)).isNone) (vd_eqD hr.units (VD.is (d' := .list ((fs.filter (partB ru ot)).map encF)) (vd_lcd 7 (onF (partB ru ot)) id (vi_list (VE.to (vd_var 3) ⟨_, rfl, rfl⟩)) (by rw [List.length_map, fl]; decide) (fun d hd D sh Hs C cl fp => ?_) (fun d hd hb D sh Hs C cl fp => (vd_var 7).mono fun x e => e) nd (blkOk_by (own := [("each", 7)]) (N := Ns) (sc := defScope s_law) (by decide +kernel)) (fun _ _ _ _ _ => pg_name (i := 7) nd rfl (Or.inl rfl))) (congrArg PyData.list (filter_onF _ _))) (vd_lst vl_nil) (shaped_fmts _) rfl) (by rw [eqv_fmts, dueE])) ?_) nd
  · obtain ⟨g, hg, rfl⟩ := List.mem_map.mp hd
    exact vts_one (VB.is (VW.vt (vwb_and (vb_val (vd_call DLH hr (by decide) (vl_cons (vd_var 7) (vl_cons (vd_var 4) vl_nil)) ⟨g, ru, fk g hg, rfl, rfl⟩)) fun _ => vwb_and1 (vb_not (vb_val (vd_call DLH hr (by decide) (vl_cons (vd_var 7) (vl_cons (vd_var 5) vl_nil)) ⟨g, ot, fk g hg, rfl, rfl⟩))))) (onF_enc (partB ru ot) g).symm)
  refine vs_asg 8 (VE.to (vd_call DPt hr (by decide) (vl_cons (vd_var 4) (vl_cons (vd_var 5) vl_nil)) ⟨ru, ot, rfl, rfl⟩) ?_) nd
  refine vs_ifB (VB.is (d' := false) (VW.vt (vwb_or (vb_not (vb_val (vd_call DA hr (by decide) (vl_cons (vd_call DIm hr (by decide) (vl_cons (vd_var 4) (vl_cons (vd_var 5) vl_nil)) ⟨ru, ot, rfl, rfl⟩) (vl_cons (vd_var 6) vl_nil)) ⟨.bool _, trivial, rfl, rfl⟩))) fun _ => vwb_or1 (vb_neB (vd_isN (vd_var 8) vd_non) (vd_var 6)))) ?_) (fun c => by cases c) (fun _ => vs_nil ?_)
  · cases firstF.find? (partB ru ot) <;> rfl
  have fin : ∀ nx s9, VS F (cxOf CX0 P w K mg base Ns "law" (defScope s_law) fa cdv A' outer s H E).nox ((defBody s_law).drop 9) [some (.raw (.ref a)), some (.raw (.ref r)), some (.dat (encF f)), some (.dat (.list (fs.map encF))), some (.dat (.str ru.s)), some (.dat (.str ot.s)), some (.dat (.bool (firstF.find? (partB ru ot)).isNone)), none, some (.dat (partD (firstF.find? (partB ru ot)))), s9, none, none, none] { nx := nx, rt := fun d => d = .bool true } := fun nx s9 => by
    refine vs_if (vt_cmp op_eq (nomark _) (ve_taken 1 hF DK hr (by decide) vd_int (by decide) (by decide) fun t h1 h2 => VE.to vd_int ⟨decide (t = 0), opd_eqI, ?_⟩))
    by_cases h0 : t = 0
    · rw [decide_eq_true h0, if_pos rfl]
      have kne : ∀ k ∈ profs.map keyR, k ≠ [] := fun k hk e => by
        obtain ⟨ws, hw, rfl⟩ := List.mem_map.mp hk
        exact profs_ne ws hw (List.map_eq_nil_iff.mp e)
      refine vs_asg 10 (VE.to (vd_call0 DPs hr (by decide) (z := .tuple profsD) ⟨rfl, rfl⟩) ?_) nd
      refine vs_ifB (VB.is (d' := false) (VW.vt (vwb_or (vb_neD hr.units (vd_listOf T.m_list (vd_var 10) rfl) (VD.is (d' := .list profsD) (vd_sortSet (Ks := profs.map keyR) (Kr := profs.map keyR) hr.units T.m_sorted T.m_set (VD.is (vd_var 10) (congrArg PyData.tuple profsD_tup)) (by decide) kne (fun k => Iff.rfl) profs_asc) (congrArg PyData.list profsD_tup.symm)) profs_shaped profs_shaped)
        fun _ => vwb_or (vb_lt (vd_len T.m_len (vd_var 10) rfl) vd_int) fun _ => vwb_or1 (vb_neD hr.units (VD.is (d' := .list []) (vd_lcd 7 (fun _ => false) id (vi_list (VE.to (vd_var 3) ⟨_, rfl, rfl⟩)) (by rw [List.length_map, fl]; decide) (fun d hd D sh Hs C cl fp => ?_) (fun d hd hb D sh Hs C cl fp => (by cases hb)) nd (blkOk_by (own := [("each", 7)]) (N := Ns) (sc := defScope s_law) (by decide +kernel)) (fun _ _ _ _ _ => pg_name (i := 7) nd rfl (Or.inl rfl))) (by simp)) (vd_lst vl_nil) rfl rfl))) ?_) (fun c => by cases c) (fun _ => vs_nil ?_)
      · obtain ⟨g, hg, rfl⟩ := List.mem_map.mp hd
        exact vts_one (VB.is (vb_notinT2 hr.units (vd_call DLP hr (by decide) (vl_cons (vd_var 7) vl_nil) ⟨g, fk g hg, rfl, rfl⟩) (vd_var 10) (plain_rules _) profsD_plain profsD_depth) (by rw [any_profs (fk g hg)]; rfl))
      · rw [profs_eqv]
        rfl
      refine vs_asg 11 (VE.to (vd_catL (vd_call DLA hr (by decide) (vl_cons vd_int (vl_cons (VD.is (d' := .list (lowsA.map .int)) (vd_lst (vl_cons (vd_sub vd_int vd_int) (vl_cons (vd_sub vd_int vd_int) (vl_cons (vd_sub vd_int vd_int) (vl_cons (vd_sub vd_int vd_int) (vl_cons vd_int vl_nil)))))) rfl) vl_nil)) ⟨4, lowsA, by decide, rfl, rfl⟩) (vd_call DLA hr (by decide) (vl_cons vd_int (vl_cons (VD.is (d' := .list (lowsB.map .int)) (vd_lst (vl_cons (vd_sub vd_int vd_int) (vl_cons (vd_sub vd_int vd_int) (vl_cons (vd_sub vd_int vd_int) (vl_cons vd_int vl_nil))))) rfl) vl_nil)) ⟨9, lowsB, by decide, rfl, rfl⟩) ?_) ?_) nd
      · rw [List.length_map, List.length_map, some_len, some_len]; decide
      rw [← List.map_append]
      show VS _ _ _ [some (.raw (.ref a)), some (.raw (.ref r)), some (.dat (encF f)), some (.dat (.list (fs.map encF))), some (.dat (.str ru.s)), some (.dat (.str ot.s)), some (.dat (.bool (firstF.find? (partB ru ot)).isNone)), none, some (.dat (partD (firstF.find? (partB ru ot)))), s9, some (.dat (.tuple profsD)), some (.dat (.list (shownF.map encF))), none] _
      have sk := shown_full
      have sl : shownF.length ≤ 5000 := by rw [shown_len]; decide
      generalize shownF = gs at sk sl
      refine vs_dict 12 (Ks := gs.map fun g => keyR (prf g)) hr.units T.m_dict (VD.is (vd_lcm 7 (fun d => .tuple [.tuple (rulesD (prf (decF d))), .bool true]) (vi_list (VE.to (vd_var 11) ⟨_, rfl, rfl⟩)) (by rw [List.length_map]; omega) (fun d hd D sh Hs C cl fp => ?_) nd (blkOk_by (own := [("each", 7)]) (N := Ns) (sc := defScope s_law) (by decide +kernel)) (fun _ _ _ _ _ => pg_name (i := 7) nd rfl (Or.inl rfl))) (congrArg PyData.list ?_)) (fun q L hL => ?_) nd
      · obtain ⟨g, hg, rfl⟩ := List.mem_map.mp hd
        rw [decF_enc]
        exact vd_tup (vl_cons (vd_call DLP hr (by decide) (vl_cons (vd_var 7) vl_nil) ⟨g, sk.1 g hg, rfl, rfl⟩) (vl_cons vd_bl vl_nil))
      · rw [List.map_map, List.map_map]
        refine List.map_congr_left fun g _ => ?_
        show PyData.tuple [.tuple (rulesD (prf (decF (encF g)))), .bool true] = .tuple [tupK (keyR (prf g)), .bool true]
        rw [decF_enc, tupK_key]
      · refine vs_ret (VD.is (vd_eqD hr.units (VD.is (d' := .list []) (vd_lcd (ds := profsD) 7 (fun _ => false) id (vi_tup (VE.to (vd_var 10) ⟨_, rfl, rfl⟩)) (by decide) (fun d hd D sh Hs C cl fp => ?_) (fun d hd hb D sh Hs C cl fp => (by cases hb)) nd (blkOk_by (own := [("each", 7)]) (N := Ns) (sc := defScope s_law) (by decide +kernel)) (fun _ _ _ _ _ => pg_name (i := 7) nd rfl (Or.inl rfl)) (hsf := soft_wk hF.soft)) (by simp)) (vd_lst vl_nil) rfl rfl) rfl)
        rw [profsD_tup] at hd
        obtain ⟨k, hk, rfl⟩ := List.mem_map.mp hd
        refine vts_one (VB.is (vb_notinK 12 (k := k) hr.units (fun H j => ⟨j.2.1, j.2.2⟩) (vd_var 7)) ?_)
        obtain ⟨ws, hw, rfl⟩ := List.mem_map.mp hk
        obtain ⟨g, hg, e⟩ := sk.2 ws hw
        rw [decide_eq_true ((hL _).mpr (List.mem_map.mpr ⟨g, hg, by rw [e]⟩))]
        rfl
    · rw [decide_eq_false h0, if_neg Bool.false_ne_true]
      refine vs_nil (vs_ret (ve_orT (VE.mono (k := fun d => ∃ x, d = .bool x) ?_ ?_)))
      · exact ve_two (pe_cmpR op_gt (pe_sem _ _) (pe_sem _ _) (nomark _)) (ve_taken 1 hF DK hr (by decide) vd_int (by decide) (by decide) fun t h1 h2 => VE.to vd_int ⟨.bool _, opd_I0 rfl, _, rfl⟩)
      · rintro d ⟨x, rfl⟩
        refine ⟨x, rfl, fun _ => rfl, fun _ => ?_⟩
        exact VD.is (vd_one (vd_inT2 hr.units (vd_call DPr hr (by decide) (vl_cons (vd_var 2) vl_nil) ⟨f, ok, rfl, rfl⟩) (vd_call0 DPs hr (by decide) (z := .tuple profsD) ⟨rfl, rfl⟩) (plain_rules _) profsD_plain profsD_depth)) (congrArg PyData.bool (any_profs ok))
  cases hfi : firstF.find? (partB ru ot) with
  | none =>
    rw [hfi] at fin
    refine vs_ifB (VB.is (d' := false) (vb_notN (vd_var 8) vd_non) rfl) (fun c => by cases c) (fun _ => vs_nil ?_)
    exact fin _ none
  | some g =>
    rw [hfi] at fin
    have gk := firstF_ok g (List.mem_of_find?_eq_some hfi)
    have gp : partB ru ot g = true := List.find?_some hfi
    obtain ⟨g1, g2⟩ : holdsM g ru = true ∧ holdsM g ot = false := by
      unfold partB at gp
      rw [Bool.and_eq_true, Bool.not_eq_true'] at gp
      exact gp
    obtain ⟨n1, n2⟩ := near_none hfi
    have so : ∀ f ∈ someF 4 [-40] (List.range 21), f.Ok := some_ok (by decide) (by decide) (by decide)
    refine vs_ifB (VB.is (d' := true) (vb_notN (vd_var 8) vd_non) rfl) (fun _ => ?_) (fun c => by cases c)
    refine vs_ifB (VB.is (d' := false) (VW.vt (vwb_or (vb_not (vb_val (vd_call DLH hr (by decide) (vl_cons (vd_var 8) (vl_cons (vd_var 4) vl_nil)) ⟨g, ru, gk, rfl, rfl⟩))) fun _ => vwb_or1 (vb_val (vd_call DLH hr (by decide) (vl_cons (vd_var 8) (vl_cons (vd_var 5) vl_nil)) ⟨g, ot, gk, rfl, rfl⟩)))) (by rw [g1, g2]; rfl)) (fun c => by cases c) (fun _ => vs_nil ?_)
    refine vs_setLc 9 7 (fun d => PySem.W.dataLt d (encF g) && onF (partB ru ot) d) (fun x y => y = id x) (vi_list (VE.to (vd_call DLA hr (by decide) (vl_cons vd_int (vl_cons (VD.is (d' := .list ([-40].map .int)) (vd_lst (vl_cons (vd_sub vd_int vd_int) vl_nil)) rfl) vl_nil)) ⟨4, [-40], by decide, rfl, rfl⟩) ⟨_, rfl, by rw [List.length_map, some_len]; decide, ?_, ?_, ?_⟩)) nd (blkOk_by (own := [("each", 7)]) (N := Ns) (sc := defScope s_law) (by decide +kernel)) (fun _ _ _ _ _ => pg_name (i := 7) nd rfl (Or.inl rfl)) (sw_true rfl rfl rfl (by decide +kernel))
    · intro d hd D sh Hs C cl fp
      obtain ⟨x, hx, rfl⟩ := List.mem_map.mp hd
      exact vts_one (VB.is (VW.vt (vwb_and (vb_ltD hr.units (vd_var 7) (vd_var 8) (alike_fmt _ _) (by intro z; cases z) (by rw [(lay_fmt x).2, (lay_fmt g).2]; decide)) fun _ => vwb_and (vb_val (vd_call DLH hr (by decide) (vl_cons (vd_var 7) (vl_cons (vd_var 4) vl_nil)) ⟨x, ru, so x hx, rfl, rfl⟩)) fun _ => vwb_and1 (vb_not (vb_val (vd_call DLH hr (by decide) (vl_cons (vd_var 7) (vl_cons (vd_var 5) vl_nil)) ⟨x, ot, so x hx, rfl, rfl⟩))))) (by rw [onF_enc]; rfl))
    · intro d hd hb D sh Hs C cl fp
      exact (vd_var 7).mono fun x e => e
    intro ys hy
    have ey : ys = [] := by
      rw [LcR.det hy, List.map_id, List.filter_eq_nil_iff]
      intro d hd
      obtain ⟨x, hx, rfl⟩ := List.mem_map.mp hd
      rw [onF_enc]
      have := n2 x hx
      unfold partB
      rw [this]
      exact Bool.false_ne_true
    subst ey
    refine vs_ifB (VB.is (d' := false) (VW.vt (vwb_or (vb_neD hr.units (vd_var 9) (vd_lst vl_nil) rfl rfl) fun _ => vwb_or1 (vb_neI (vd_ixT (d := .int (g.p : Int)) (vd_var 8) vd_int rfl) vd_int))) (by rw [n1]; rfl)) (fun c => by cases c) (fun _ => vs_nil (vs_nil ?_))
    exact fin _ _
end
end T
namespace T
open PySem PySem.Spec PyProof.Rows L2 Dl Fx
theorem all_mk {l : PySem.W.OpenLaw} {w : World} {K : PySem.W.Frag} {h : Heap} {mg : Str → Option Value} {fa f1 : Addr} (X : K.In h) (G : h.Ns mainGlobals mg) (hfa : mg "law" = some (.ref fa)) (T : Txt w K mg) {od an : Option Addr} {sl : Array (Option Value)} {oc kV dc pm cd ct : Value}
    (a : PySem.W.nsIn K mainGlobals "law" = some (some (.ref f1))) (lk : K.lookup f1 = some ⟨oc, od, .func (PySem.W.fnOf "law" "law" (defArgs s_law) (defBody s_law) (defScope s_law) .none kV dc pm an cd ct), sl⟩) (c : PySem.W.codeIn K cd "law" = true) (k : PySem.W.keepIn K (.ref f1) = true) :
    ∃ fd : FuncData, (∀ (s : Shared) (v : Value), BindsTo s fd ⟨[v], []⟩ [("script", v)]) ∧ ∀ base : Heap, K.In base → base.Ns mainGlobals mg → FnOk l.prog w K mg base CX0 30 fa fd ["script"] (Dl.spLaw K) := by
  have e := hfa.symm.trans (PySem.W.mg_of X G a)
  cases e
  exact ⟨_, fun s v => .of_eq rfl, fun base _ _ => ok_law T (fun_mk (st := s_law) lk c k)⟩
end T
open PySem PySem.W PyProof.Rows
set_option maxRecDepth 100000 in
set_option maxHeartbeats 0 in
theorem PySem.Challenge.cw_rulesheld_k06_whole_profiles_holds : PySem.Challenge.rw_rulesheld_k06_whole_profiles.Holds := by
  w_on; o_law; k_head; (case hw => w_witness2)
  k_fill
  refine L2.walk_of (l := PySem.Challenge.rw_rulesheld_k06_whole_profiles) (n := 63) (k := 30) (x := "script") (CX := fun _ => L2.CX0) (sp := fun w => Dl.spLaw _) rfl (by decide) rfl ⟨rfl, by decide, by decide⟩ (fun w h Y => PySem.W.kIn_of Y) ?F (fun _ _ a ns hl _ hS => ⟨a, ns, rfl, hS, hl, fun _ => rfl⟩) (fun _ _ _ _ _ h => h)
  case F =>
    intro w mg fa h KX G hmg
    refine' T.all_mk KX G hmg ?tx ?A0 ?L0 ?C0 ?K0
    case tx =>
      refine' ⟨?a_is_within, ?a_is_format, ?a_require_format, ?a_require_rule, ?a_holds, ?a__span, ?a__is_nearest, ?a__is_gradual, ?a__is_largest, ?a__holds_sum_sign, ?a__holds_errors, ?a__holds_symmetry, ?a__holds_midpoint, ?a__holds_average, ?a__holds_add_back, ?a__holds_grouping, ?a__holds_absorption, ?a__holds_third, ?a__holds_halves, ?a__holds_squares, ?a_profile, ?a_profiles, ?a_implies, ?a_parting, ?a__first_formats, ?a__law_taken, ?a__law_pick, ?a__law_alike, ?a__law_format, ?a__law_rules, ?a__law_holds, ?a__law_kinds, ?a__law_all, ?a__law_profile, ?m_bool, ?m_dict, ?m_int, ?m_isinstance, ?m_len, ?m_list, ?m_min, ?m_range, ?m_set, ?m_sorted, ?m_str, ?m_tuple, ?d_MODES, ?d_TINY_WAYS, ?d_HUGE_WAYS, ?d_RULES, ?d_FIRST_EXPONENTS, ?d_FIRST_SPANS, ?c_MODES, ?c_TINY_WAYS, ?c_HUGE_WAYS, ?c_LEAST_PRECISION, ?c_GREATEST_PRECISION, ?c_GREATEST_EXPONENT, ?c_GREATEST_SPAN, ?c_RULES, ?c_DECISIONS, ?c_FIRST_PRECISION, ?c_FIRST_EXPONENTS, ?c_FIRST_SPANS⟩
      case a_is_within => (refine' Dl.at_mk KX G ?a ?l ?c ?k (fun _ _ _ _ _ _ us hl => match us, hl with | [_, _, _], _ => rfl)); (case a => k_is); (case l => k_is); (case c => k_is); (case k => k_is)
      case a_is_format => (refine' Dl.at_mk KX G ?a ?l ?c ?k (fun _ _ _ _ _ _ us hl => match us, hl with | [_], _ => rfl)); (case a => k_is); (case l => k_is); (case c => k_is); (case k => k_is)
      case a_require_format => (refine' Dl.at_mk KX G ?a ?l ?c ?k (fun _ _ _ _ _ _ us hl => match us, hl with | [_], _ => rfl)); (case a => k_is); (case l => k_is); (case c => k_is); (case k => k_is)
      case a_require_rule => (refine' Dl.at_mk KX G ?a ?l ?c ?k (fun _ _ _ _ _ _ us hl => match us, hl with | [_], _ => rfl)); (case a => k_is); (case l => k_is); (case c => k_is); (case k => k_is)
      case a_holds => (refine' Dl.at_mk KX G ?a ?l ?c ?k (fun _ _ _ _ _ _ us hl => match us, hl with | [_, _], _ => rfl)); (case a => k_is); (case l => k_is); (case c => k_is); (case k => k_is)
      case a__span => (refine' Dl.at_mk KX G ?a ?l ?c ?k (fun _ _ _ _ _ _ us hl => match us, hl with | [_], _ => rfl)); (case a => k_is); (case l => k_is); (case c => k_is); (case k => k_is)
      case a__is_nearest => (refine' Dl.at_mk KX G ?a ?l ?c ?k (fun _ _ _ _ _ _ us hl => match us, hl with | [_], _ => rfl)); (case a => k_is); (case l => k_is); (case c => k_is); (case k => k_is)
      case a__is_gradual => (refine' Dl.at_mk KX G ?a ?l ?c ?k (fun _ _ _ _ _ _ us hl => match us, hl with | [_], _ => rfl)); (case a => k_is); (case l => k_is); (case c => k_is); (case k => k_is)
      case a__is_largest => (refine' Dl.at_mk KX G ?a ?l ?c ?k (fun _ _ _ _ _ _ us hl => match us, hl with | [_], _ => rfl)); (case a => k_is); (case l => k_is); (case c => k_is); (case k => k_is)
      case a__holds_sum_sign => (refine' Dl.at_mk KX G ?a ?l ?c ?k (fun _ _ _ _ _ _ us hl => match us, hl with | [_], _ => rfl)); (case a => k_is); (case l => k_is); (case c => k_is); (case k => k_is)
      case a__holds_errors => (refine' Dl.at_mk KX G ?a ?l ?c ?k (fun _ _ _ _ _ _ us hl => match us, hl with | [_], _ => rfl)); (case a => k_is); (case l => k_is); (case c => k_is); (case k => k_is)
      case a__holds_symmetry => (refine' Dl.at_mk KX G ?a ?l ?c ?k (fun _ _ _ _ _ _ us hl => match us, hl with | [_], _ => rfl)); (case a => k_is); (case l => k_is); (case c => k_is); (case k => k_is)
      case a__holds_midpoint => (refine' Dl.at_mk KX G ?a ?l ?c ?k (fun _ _ _ _ _ _ us hl => match us, hl with | [_], _ => rfl)); (case a => k_is); (case l => k_is); (case c => k_is); (case k => k_is)
      case a__holds_average => (refine' Dl.at_mk KX G ?a ?l ?c ?k (fun _ _ _ _ _ _ us hl => match us, hl with | [_], _ => rfl)); (case a => k_is); (case l => k_is); (case c => k_is); (case k => k_is)
      case a__holds_add_back => (refine' Dl.at_mk KX G ?a ?l ?c ?k (fun _ _ _ _ _ _ us hl => match us, hl with | [_], _ => rfl)); (case a => k_is); (case l => k_is); (case c => k_is); (case k => k_is)
      case a__holds_grouping => (refine' Dl.at_mk KX G ?a ?l ?c ?k (fun _ _ _ _ _ _ us hl => match us, hl with | [_], _ => rfl)); (case a => k_is); (case l => k_is); (case c => k_is); (case k => k_is)
      case a__holds_absorption => (refine' Dl.at_mk KX G ?a ?l ?c ?k (fun _ _ _ _ _ _ us hl => match us, hl with | [_], _ => rfl)); (case a => k_is); (case l => k_is); (case c => k_is); (case k => k_is)
      case a__holds_third => (refine' Dl.at_mk KX G ?a ?l ?c ?k (fun _ _ _ _ _ _ us hl => match us, hl with | [_], _ => rfl)); (case a => k_is); (case l => k_is); (case c => k_is); (case k => k_is)
      case a__holds_halves => (refine' Dl.at_mk KX G ?a ?l ?c ?k (fun _ _ _ _ _ _ us hl => match us, hl with | [_], _ => rfl)); (case a => k_is); (case l => k_is); (case c => k_is); (case k => k_is)
      case a__holds_squares => (refine' Dl.at_mk KX G ?a ?l ?c ?k (fun _ _ _ _ _ _ us hl => match us, hl with | [_], _ => rfl)); (case a => k_is); (case l => k_is); (case c => k_is); (case k => k_is)
      case a_profile => (refine' Dl.at_mk KX G ?a ?l ?c ?k (fun _ _ _ _ _ _ us hl => match us, hl with | [_], _ => rfl)); (case a => k_is); (case l => k_is); (case c => k_is); (case k => k_is)
      case a_profiles => (refine' Dl.at_mk KX G ?a ?l ?c ?k (fun _ _ _ _ _ _ us hl => match us, hl with | [], _ => rfl)); (case a => k_is); (case l => k_is); (case c => k_is); (case k => k_is)
      case a_implies => (refine' Dl.at_mk KX G ?a ?l ?c ?k (fun _ _ _ _ _ _ us hl => match us, hl with | [_, _], _ => rfl)); (case a => k_is); (case l => k_is); (case c => k_is); (case k => k_is)
      case a_parting => (refine' Dl.at_mk KX G ?a ?l ?c ?k (fun _ _ _ _ _ _ us hl => match us, hl with | [_, _], _ => rfl)); (case a => k_is); (case l => k_is); (case c => k_is); (case k => k_is)
      case a__first_formats => (refine' Dl.at_mk KX G ?a ?l ?c ?k (fun _ _ _ _ _ _ us hl => match us, hl with | [], _ => rfl)); (case a => k_is); (case l => k_is); (case c => k_is); (case k => k_is)
      case a__law_taken => (refine' Dl.at_mk KX G ?a ?l ?c ?k (fun _ _ _ _ _ _ us hl => match us, hl with | [_, _], _ => rfl)); (case a => k_is); (case l => k_is); (case c => k_is); (case k => k_is)
      case a__law_pick => (refine' Dl.at_mk KX G ?a ?l ?c ?k (fun _ _ _ _ _ _ us hl => match us, hl with | [_, _], _ => rfl)); (case a => k_is); (case l => k_is); (case c => k_is); (case k => k_is)
      case a__law_alike => (refine' Dl.at_mk KX G ?a ?l ?c ?k (fun _ _ _ _ _ _ us hl => match us, hl with | [_, _], _ => rfl)); (case a => k_is); (case l => k_is); (case c => k_is); (case k => k_is)
      case a__law_format => (refine' Dl.at_mk KX G ?a ?l ?c ?k (fun _ _ _ _ _ _ us hl => match us, hl with | [_, _], _ => rfl)); (case a => k_is); (case l => k_is); (case c => k_is); (case k => k_is)
      case a__law_rules => (refine' Dl.at_mk KX G ?a ?l ?c ?k (fun _ _ _ _ _ _ us hl => match us, hl with | [], _ => rfl)); (case a => k_is); (case l => k_is); (case c => k_is); (case k => k_is)
      case a__law_holds => (refine' Dl.at_mk KX G ?a ?l ?c ?k (fun _ _ _ _ _ _ us hl => match us, hl with | [_, _], _ => rfl)); (case a => k_is); (case l => k_is); (case c => k_is); (case k => k_is)
      case a__law_kinds => (refine' Dl.at_mk KX G ?a ?l ?c ?k (fun _ _ _ _ _ _ us hl => match us, hl with | [], _ => rfl)); (case a => k_is); (case l => k_is); (case c => k_is); (case k => k_is)
      case a__law_all => (refine' Dl.at_mk KX G ?a ?l ?c ?k (fun _ _ _ _ _ _ us hl => match us, hl with | [_, _], _ => rfl)); (case a => k_is); (case l => k_is); (case c => k_is); (case k => k_is)
      case a__law_profile => (refine' Dl.at_mk KX G ?a ?l ?c ?k (fun _ _ _ _ _ _ us hl => match us, hl with | [_], _ => rfl)); (case a => k_is); (case l => k_is); (case c => k_is); (case k => k_is)
      case m_bool => exact PySem.W.mg_none_of KX G (by k_is)
      case m_dict => exact PySem.W.mg_none_of KX G (by k_is)
      case m_int => exact PySem.W.mg_none_of KX G (by k_is)
      case m_isinstance => exact PySem.W.mg_none_of KX G (by k_is)
      case m_len => exact PySem.W.mg_none_of KX G (by k_is)
      case m_list => exact PySem.W.mg_none_of KX G (by k_is)
      case m_min => exact PySem.W.mg_none_of KX G (by k_is)
      case m_range => exact PySem.W.mg_none_of KX G (by k_is)
      case m_set => exact PySem.W.mg_none_of KX G (by k_is)
      case m_sorted => exact PySem.W.mg_none_of KX G (by k_is)
      case m_str => exact PySem.W.mg_none_of KX G (by k_is)
      case m_tuple => exact PySem.W.mg_none_of KX G (by k_is)
      case d_MODES => (refine' Dl.dn_mk KX G ?a ?l; (case a => k_is); (case l => k_is))
      case d_TINY_WAYS => (refine' Dl.dn_mk KX G ?a ?l; (case a => k_is); (case l => k_is))
      case d_HUGE_WAYS => (refine' Dl.dn_mk KX G ?a ?l; (case a => k_is); (case l => k_is))
      case d_RULES => (refine' Dl.dn_mk KX G ?a ?l; (case a => k_is); (case l => k_is))
      case d_FIRST_EXPONENTS => (refine' Dl.dn_mk KX G ?a ?l; (case a => k_is); (case l => k_is))
      case d_FIRST_SPANS => (refine' Dl.dn_mk KX G ?a ?l; (case a => k_is); (case l => k_is))
      case c_MODES => (refine' Dl.tup_mk KX G ?a ?l ?v (by show _ ≤ PySem.sizeLine; decide)); (case a => k_is); (case l => k_is); (case v => exact .cons ⟨_, rfl⟩ (.cons ⟨_, rfl⟩ (.cons ⟨_, rfl⟩ (.cons ⟨_, rfl⟩ (.cons ⟨_, rfl⟩ (.nil))))))
      case c_TINY_WAYS => (refine' Dl.tup_mk KX G ?a ?l ?v (by show _ ≤ PySem.sizeLine; decide)); (case a => k_is); (case l => k_is); (case v => exact .cons ⟨_, rfl⟩ (.cons ⟨_, rfl⟩ (.nil)))
      case c_HUGE_WAYS => (refine' Dl.tup_mk KX G ?a ?l ?v (by show _ ≤ PySem.sizeLine; decide)); (case a => k_is); (case l => k_is); (case v => exact .cons ⟨_, rfl⟩ (.cons ⟨_, rfl⟩ (.nil)))
      case c_LEAST_PRECISION => exact ⟨_, PySem.W.mg_of KX G (by k_is)⟩
      case c_GREATEST_PRECISION => exact ⟨_, PySem.W.mg_of KX G (by k_is)⟩
      case c_GREATEST_EXPONENT => exact ⟨_, PySem.W.mg_of KX G (by k_is)⟩
      case c_GREATEST_SPAN => exact ⟨_, PySem.W.mg_of KX G (by k_is)⟩
      case c_RULES => (refine' Dl.tup_mk KX G ?a ?l ?v (by show _ ≤ PySem.sizeLine; decide)); (case a => k_is); (case l => k_is); (case v => exact .cons ⟨_, rfl⟩ (.cons ⟨_, rfl⟩ (.cons ⟨_, rfl⟩ (.cons ⟨_, rfl⟩ (.cons ⟨_, rfl⟩ (.cons ⟨_, rfl⟩ (.cons ⟨_, rfl⟩ (.cons ⟨_, rfl⟩ (.cons ⟨_, rfl⟩ (.cons ⟨_, rfl⟩ (.cons ⟨_, rfl⟩ (.cons ⟨_, rfl⟩ (.cons ⟨_, rfl⟩ (.cons ⟨_, rfl⟩ (.nil)))))))))))))))
      case c_DECISIONS => (refine' Dl.kdF_mk KX G ?a ?l ?hk ?e); (case a => k_is); (case l => k_is); (case hk => exact ⟨⟨_, _, rfl, rfl⟩, ⟨_, _, rfl, rfl⟩, ⟨_, _, rfl, rfl⟩, ⟨_, _, rfl, rfl⟩, ⟨_, _, rfl, rfl⟩, ⟨_, _, rfl, rfl⟩, ⟨_, _, rfl, rfl⟩, ⟨_, _, rfl, rfl⟩, ⟨_, _, rfl, rfl⟩, ⟨_, _, rfl, rfl⟩, ⟨_, _, rfl, rfl⟩, ⟨_, _, rfl, rfl⟩, ⟨_, _, rfl, rfl⟩, ⟨_, _, rfl, rfl⟩, trivial⟩); (case e => exact ⟨⟨_, by k_is, by k_is⟩, ⟨_, by k_is, by k_is⟩, ⟨_, by k_is, by k_is⟩, ⟨_, by k_is, by k_is⟩, ⟨_, by k_is, by k_is⟩, ⟨_, by k_is, by k_is⟩, ⟨_, by k_is, by k_is⟩, ⟨_, by k_is, by k_is⟩, ⟨_, by k_is, by k_is⟩, ⟨_, by k_is, by k_is⟩, ⟨_, by k_is, by k_is⟩, ⟨_, by k_is, by k_is⟩, ⟨_, by k_is, by k_is⟩, ⟨_, by k_is, by k_is⟩, trivial⟩)
      case c_FIRST_PRECISION => exact ⟨_, PySem.W.mg_of KX G (by k_is)⟩
      case c_FIRST_EXPONENTS => (refine' Dl.tup_mk KX G ?a ?l ?v (by show _ ≤ PySem.sizeLine; decide)); (case a => k_is); (case l => k_is); (case v => exact .cons ⟨_, rfl⟩ (.cons ⟨_, rfl⟩ (.cons ⟨_, rfl⟩ (.cons ⟨_, rfl⟩ (.cons ⟨_, rfl⟩ (.nil))))))
      case c_FIRST_SPANS => (refine' Dl.tup_mk KX G ?a ?l ?v (by show _ ≤ PySem.sizeLine; decide)); (case a => k_is); (case l => k_is); (case v => exact .cons ⟨_, rfl⟩ (.cons ⟨_, rfl⟩ (.cons ⟨_, rfl⟩ (.cons ⟨_, rfl⟩ (.cons ⟨_, rfl⟩ (.nil))))))
    (case A0 => k_is); (case L0 => k_is); (case C0 => k_is); (case K0 => k_is)
