package scalar

import (
	"reredos/api"
	"reredos/num"
)

// What signs do with two numbers stands in two maps: they are made anew for each pair, and a small one needs no memory of its own then.

// reckoning tells what the signs do that may find no number.
func reckoning() map[string]func(a, b string) (string, api.Errno) {
	return map[string]func(a, b string) (string, api.Errno){
		"+": num.Add,
		"-": num.Sub,
		"*": num.Mul,
		"%": num.Div,
		"!": num.Mod,
	}
}

// weighing tells what the signs do that hold two numbers against each other.
func weighing() map[string]func(a, b string) string {
	return map[string]func(a, b string) string{
		"&": lesser,
		"|": greater,
		"<": func(a, b string) string { return bit(num.Cmp(a, b) < 0) },
		">": func(a, b string) string { return bit(num.Cmp(a, b) > 0) },
		"=": func(a, b string) string { return bit(num.Cmp(a, b) == 0) },
		"~": func(a, b string) string { return bit(num.Cmp(a, b) != 0) },
	}
}

// turning tells what the signs do with one number.
func turning() map[string]func(a string) string {
	return map[string]func(a string) string{
		"-": num.Neg,
		"~": func(a string) string { return bit(num.Sign(a) == 0) },
		"*": func(a string) string { return num.Of(int64(num.Sign(a))) },
	}
}

func lesser(a, b string) string {
	if num.Cmp(a, b) < 0 {
		return a
	}
	return b
}

func greater(a, b string) string {
	if num.Cmp(a, b) > 0 {
		return a
	}
	return b
}

func bit(is bool) string {
	if is {
		return one
	}
	return zero
}
