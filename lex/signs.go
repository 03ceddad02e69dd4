package lex

// signs: the longest ones first, since they are tried in this order.
var signs = [...]string{
	"->", "==", "/=", "=<", ">=",
	"=", "<", ">", "+", "-", "*", "/", "!", "(", ")", "{", "}", "[", "]", ",", ";", ".",
}

// digits16: the digits of base 16, each at the place of its value.
const digits16 = "0123456789abcdef"

// The bytes that a letter stands for behind a \, each at its letter's place.
const (
	escapes = "nt\\\""
	escaped = "\n\t\\\""
)

func blank(c byte) bool { return c == ' ' || c == '\t' || c == '\n' || c == '\r' }

func digit(c byte) bool { return '0' <= c && c <= '9' }

func lower(c byte) bool { return 'a' <= c && c <= 'z' }

// variable: can a variable's name begin with c?
func variable(c byte) bool { return 'A' <= c && c <= 'Z' || c == '_' }

func inName(c byte) bool { return lower(c) || variable(c) || digit(c) }

// shown: may c stand within quotes?
func shown(c byte) bool { return ' ' <= c && c <= '~' }
