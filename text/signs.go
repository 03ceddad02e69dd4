package text

// digits16: the digits of base 16, each at the place of its value.
const digits16 = "0123456789abcdef"

func digit(c byte) bool { return '0' <= c && c <= '9' }

func lower(c byte) bool { return 'a' <= c && c <= 'z' }

func inName(c byte) bool { return lower(c) || 'A' <= c && c <= 'Z' || digit(c) || c == '_' }

// shown: within quotes c stands as it is, or, if it is a sign of the form
// itself, behind a \; each other byte stands there as its digits alone.
func shown(c byte) bool { return ' ' <= c && c <= '~' }
