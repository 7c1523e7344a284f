package kind

import "borrowdale/api"

// What is gone through at most: types that are not right can lie in themselves, or hold more than can be counted, and there must be an end.
const (
	maxLevels = 1 << 16
	maxItems  = 1 << 20
)

// ends is whether there is an end to a type.
func ends(t api.Type) bool {
	return left(t, maxLevels, maxItems) > 0
}

// left is how many items may still be gone through behind a type, which may have so many levels (0: no more).
func left(t api.Type, levels, items int) int {
	if levels == 0 {
		return 0
	}
	items = max(0, items-1-len(t.Regs))
	for _, a := range t.Args {
		if items == 0 {
			return 0
		}
		items = left(a, levels-1, items)
	}
	return items
}

// retold is a type in new memory, in which other stands for each region, asked in order.
func retold(t api.Type, other func(int) int) api.Type {
	if !ends(t) {
		return api.Type{}
	}
	return anew(t, other)
}

// anew is a type of which is known that there is an end to it, retold.
func anew(t api.Type, other func(int) int) api.Type {
	if t.Kind == api.KRef {
		t.Region = other(t.Region)
	}
	var regs []int
	for _, r := range t.Regs {
		regs = append(regs, other(r))
	}
	var args []api.Type
	for _, a := range t.Args {
		args = append(args, anew(a, other))
	}
	t.Regs, t.Args = regs, args
	return t
}
