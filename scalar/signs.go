package scalar

const (
	zero = "0"
	one  = "1"
)

// sign is what is known of a sign of two numbers.
type sign struct {
	op    string
	whole bool   // whether any two numbers may be to its sides
	unit  string // empty, if it has none
}

// dyads and monads stand as they are told, in their turn.
var (
	dyads = [...]sign{
		{"+", true, zero},
		{"-", true, ""},
		{"*", true, one},
		{"%", false, ""},
		{"!", false, ""},
		{"&", true, ""},
		{"|", true, ""},
		{"<", true, ""},
		{">", true, ""},
		{"=", true, ""},
		{"~", true, ""},
	}
	monads = [...]string{"-", "~", "*"}
)

// known is what is known of a text; nothing, if it is no sign of two numbers.
func known(op string) sign {
	for _, s := range dyads {
		if s.op == op {
			return s
		}
	}
	return sign{}
}
