import Derived.Test.YtlpalhlihckidaaWr
/-! Here putW_any (text Wn) and getW_any (text Wr) are at hand: what a seat's own code has to pay; the texts Wh .. Wk go over these two alone. -/
