/-
  Package sites, walked: what its functions come to.
-/
import Derived.Test.YtofhgaioidfdmaaGreatSitesPAll
import Derived.Test.YtofhgaioidfdmaaGreatSitesPMut
import Derived.Test.YtofhgaioidfdmaaGreatSitesPkg
namespace Go.Proofs.YtofhgaioidfdmaaGreat.Sites
open Go.RowKit Mem _root_.Go.Proofs.YtofhgaioidfdmaaGreat.Arena _root_.Go.Proofs.YtofhgaioidfdmaaGreat.Delta _root_.Go.Proofs.YtofhgaioidfdmaaGreat.Path _root_.Go.Proofs.YtofhgaioidfdmaaGreat.Cat _root_.Go.Proofs.YtofhgaioidfdmaaGreat.Kinds

theorem spkg : SPkg where
  all := fun p w hp => PAll_any p w hp
  find := fun A c L d w hR hc hA hl hd => PFind_any A c L d w hR hc hA hl hd
  mutant := fun p d w hp hd => PMutant_any p d w hp hd

end Go.Proofs.YtofhgaioidfdmaaGreat.Sites
