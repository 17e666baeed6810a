package tree

import "plinth/api"

// Type tells whether n is a formed type.
func Type(n api.Node) bool {
	switch n.Kind {
	case api.YName:
		return typeName(n)
	case api.YNum:
		return noText(n) && n.N >= 0 && n.M == 0 && len(n.Parts) == 0
	case api.YStr:
		return plain(n) && len(n.Parts) == 0
	case api.YInfer:
		return isName(n) && plain(n) && len(n.Parts) == 0
	case api.YArray, api.YKeyof:
		return bare(n) && types(n, 1)
	case api.YTuple:
		return bare(n) && all(n.Parts, Type)
	case api.YFunc:
		last := len(n.Parts) - 1
		return bare(n) && last >= 0 && all(n.Parts[:last], param) && Type(n.Parts[last])
	case api.YObject:
		return bare(n) && all(n.Parts, field)
	case api.YUnion, api.YBoth:
		return bare(n) && len(n.Parts) >= 2 && all(n.Parts, Type)
	case api.YIndex:
		return bare(n) && types(n, 2)
	case api.YMapped:
		return isName(n) && flags(n) && types(n, 2)
	case api.YCond:
		return bare(n) && types(n, 4)
	}
	return false
}

func typeName(n api.Node) bool {
	if typeWord(n.Text) {
		return plain(n) && len(n.Parts) == 0
	}
	return reference(n)
}

// reference tells whether n is a YName that is formed, and no word.
func reference(n api.Node) bool {
	return n.Kind == api.YName && isName(n) && plain(n) && all(n.Parts, Type)
}

// types tells whether n has so many parts, all of them types.
func types(n api.Node, count int) bool {
	return len(n.Parts) == count && all(n.Parts, Type)
}

func flags(n api.Node) bool {
	return n.N >= 0 && n.N <= 3 && n.M == 0
}

func param(n api.Node) bool {
	return n.Kind == api.YParam && isName(n) && plain(n) && types(n, 1)
}

func field(n api.Node) bool {
	return n.Kind == api.YField && isName(n) && flags(n) && types(n, 1)
}
