package check

// head: what a function, or a builtin, is called by.
type head struct {
	name string
	args int
}

// builtins: in the order of their numbers, from 1 on.
var builtins = [...]head{
	{"self", 0}, {"node", 0}, {"near", 0}, {"nodes", 0}, {"spawn", 2}, {"spawn", 3},
	{"link", 1}, {"unlink", 1}, {"monitor", 1}, {"demonitor", 1}, {"exit", 1}, {"exit", 2},
	{"trap", 1}, {"register", 2}, {"whereis", 1}, {"claim", 2}, {"find", 1}, {"say", 1},
	{"ref", 0}, {"cx", 2}, {"conj", 1}, {"len", 1}, {"elem", 2}, {"hd", 1}, {"tl", 1}, {"cons", 2},
}
