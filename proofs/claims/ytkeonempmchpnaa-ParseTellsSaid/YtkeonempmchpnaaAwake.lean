/- What stage 6's texts take of their Awake: Key, what a call keeps, a token's cells. Conditions: none. -/
import Derived.Test.YtkeonempmchpnaaAllW
import Derived.Test.YtkeonempmchpnaaKey
import Derived.Test.YtkeonempmchpnaaTget
