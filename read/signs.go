package read

import "ponder/api"

// relOf answers the Rel that a sign in front of an atom stands for; 0 if there is none.
func relOf(sign string) int {
	switch sign {
	case "<>":
		return api.Ne
	case "<":
		return api.Lt
	case "<=":
		return api.Le
	case ">":
		return api.Gt
	case ">=":
		return api.Ge
	case "<=>":
		return api.Same
	}
	return 0
}

// opOf answers the Op that a sign stands for; 0 if there is none.
func opOf(sign string) int {
	switch sign {
	case "+":
		return api.Add
	case "-":
		return api.Sub
	case "*":
		return api.Mul
	}
	return 0
}

// prefOf answers the Pref that a sign stands for if no atom follows; 0 if there is none.
func prefOf(sign string) int {
	switch sign {
	case "+":
		return api.Accept
	case "-":
		return api.Reject
	case "!":
		return api.Require
	case "~":
		return api.Prohibit
	case ">":
		return api.Best
	case "<":
		return api.Worst
	case "=":
		return api.Indiff
	}
	return 0
}

// pairedOf answers what a Pref becomes if an atom follows its sign; 0 if none may follow.
func pairedOf(kind int) int {
	switch kind {
	case api.Best:
		return api.Better
	case api.Worst:
		return api.Worse
	case api.Indiff:
		return api.Alike
	}
	return 0
}
